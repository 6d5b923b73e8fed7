import PyProof.Rows.All
import Wide.All
import OpenK.AllK
import Wide.FinOn
import Lean
import PyProof.EqAt
import PyProof.EqKinds
import PyProof.TupleCall
import KE.KSortAsk
import KE.KIntText
import KE.KMinBuiltin
import PyProof.MeetsStr2
import KE.KTabLook
import PyProof.FactsAll.int_1
import PySem.Challenge.RW_cutless_k31_a_close_parted
open Array renaming length_toList→ba,getElem?_eq_getElem→bF,getElem?_eq_some_iff→cT,forIn_toList→fY,getElem?_setIfInBounds_self_of_lt→iQ,getElem?_setIfInBounds_ne→kN,toList_filterMap→tj,getElem?_eq_none→tm,mem_of_getElem?→tq,mem_toList_iff→uL,append_assoc→yw,toList_push→yA
open Array.Perm renaming refl→cw
open Bool renaming and_eq_true→aa,false_eq_true→ae,false_ne_true→ai,or_eq_true→bf,and_self→bq,eq_false_iff→cB,not_true→cH,eq_iff_iff→df,true_or→ff,and_true→gM,true_and→jQ,or_true→kM,false_or→qL,not_eq_true'→BP
open Classical renaming byContradiction→fX,choose_spec→pA
open Iff renaming rfl→aY
open Int renaming emod_lt_of_pos→aZ,emod_nonneg→bp,toNat_natCast→lg,fmod_eq_emod_of_nonneg→qI,fdiv_eq_ediv_of_nonneg→qJ
open List renaming length_map→aj,mem_cons_self→ak,mem_cons_of_mem→av,length_cons→aw,getElem?_eq_getElem→ax,length_append→az,getElem?_eq_some_iff→aE,length_nil→aF,size_toArray→aG,map_cons→aI,getElem?_set_ne→aK,getElem?_append_left→aM,mem_of_getElem?→aO,mem_cons→aQ,mem_map→aR,getElem?_map→aS,getElem?_append_right→aU,length_set→bb,length_take→bj,mem_append_right→bz,all_eq_true→bD,getElem?_set_self→bH,map_append→bS,length_singleton→cb,mem_append→cg,getElem?_take_of_lt→cG,append_nil→cP,any_eq_true→cR,getElem?_eq_none→cV,getElem?_of_mem→dg,length_eq_zero_iff→du,getElem?_replicate→dv,mem_singleton→dE,all_cons→dH,length_replicate→dI,mem_range→dR,getD_eq_getElem?_getD→dS,drop_eq_getElem_cons→en,any_cons→eF,nodup_cons→eM,mem_filter→eN,foldl_cons→eO,find?_cons→eP,length_range→fc,not_mem_nil→fy,lookup_cons→fz,length_drop→fA,mem_append_left→fJ,forIn_cons→fR,filterMap_cons→fW,pairwise_iff_getElem→gC,filterMap_cons_some→gL,getElem_mem→hV,all_nil→ib,take_append_drop→iO,take_succ_cons→jo,mem_map_of_mem→jq,mem_filterMap→jR,pairwise_map→kJ,map_nil→kK,map_map→kL,isEmpty_nil→lH,filter_cons→lI,drop_length→lJ,cons_append→lK,of_mem_zip→nA,nil_append→nB,length_eraseIdx_of_lt→pj,getElem?_eq_none_iff→qH,getElem?_cons_succ→ti,dropLast_eq_take→uK,pairwise_append→wo,mem_iff_getElem→wq,map_congr_left→yq,filter_eq_self→yt,eraseDups_cons→yu,drop_succ_cons→yv,zip_nil_right→yz,reverse_cons→BN,append_assoc→BO,nodup_range→BR
open Nat renaming le_refl→ay,ne_of_lt→aH,lt_of_lt_of_le→aP,lt_succ_of_lt→bu,zero_le→bA,le_trans→bK,lt_irrefl→cI,le_of_lt_succ→cO,lt_succ_self→cS,lt_or_ge→dj,le_add_right→fH,mod_lt→gz,lt_of_le_of_lt→gA,succ_pos→iF,le_of_lt→iG,pow_le_pow_right→jj,lt_or_eq_of_le→kz,eq_zero_or_pos→kA,add_right_comm→kB,pow_succ→kY,lt_trichotomy→kZ,le_succ→nz,add_assoc→sZ,zero_add→uG,ne_of_gt→uH,min_self→uI,le_of_eq→uJ,log2_lt→yp,le_succ_of_le→BQ,le_max_right→Ez,not_lt_zero→EY,min_eq_left→EZ,le_max_left→Fb
open Option renaming bind_eq_some_iff→af,bind_eq_bind→ao,map_eq_some_iff→aL,map_some→cM,isNone_iff_eq_none→cX,isSome_iff_exists→eB,bind_some→kI,getD_some→yx,getD_none→yy
open Option.some renaming inj→aX
open PyProof.Rows renaming callWith_type1→fq,listUpdate_at→iE,slot_tuple_getitem→iX,assignInOrder_cons→ny,get?_update_seq→sY,subscriptTail_builtinR→BK,seqEpoch_at→Ex,bubble_perm→Ey,assignInOrder_nil→IV
open PyProof.Rows.F renaming plain_set_update_loop→cF,entry_set_update_loop→gK
open PyProof.Rows.IsTup renaming new→qK
open PySem renaming wpAny_bind→ag,wpAny_pure→ar,wpAny_newObj_type→bw,sizeLine_eq→bM,wpAny_setState_of→cc,wpAny_call_entry→cL,wpAny_holding→cN,wpAny_truthy_bool→dY,wpAny_askSetting→eK,wpAny_mono→fk,wpAny_setField→fG,builtinLookup_eq_fast→fQ,wpAny_specialOf→gw,wpAny_passesOwn→gx,codeAny_builtin→gy,codeAny_mono→gJ,wpAny_pyIter_list→hZ,wpAny_of_eq→ia,plainId_quiet→iD,wpAny_callSpecial?_slot→iW,wpAny_loadPart'→jk,typeLookup_type→jm,wpAny_setEntries_of→kX,intBits_le_64→lG,wpAny_Call_Name_kw→nv,wpAny_typeOf→nZ,wpAny_setEpoch_of→oa,wpAny_isInstance→qF,noFill_tuple_add→qG,typeIs_int→uE,isSubtype_type→uF,wpAny_standAt→yh,wpAny_newList→yj,seq_tuple_add→yk,filterMap_getElem?_range→ym,concat_meets→BL,wpAny_field→Ew,wpAny_rule→IL,wpAny_Name→IM,typeIs_str→IP,wpAny_storeSet_of→IQ,wpAny_pyIter_slot→IS,fits_of_scanBound→IT,eqIsQuiet_byValue→IU
open PySem.Around renaming under_plainId→fB
open PySem.Calls renaming call_function_entry→gB,Name_function_global→oe
open PySem.Heap renaming get?_push_of_some→ah,lt_size→aB,get?_push_size→aD,size_push→bQ,get?_update_other→fe,get?_update_self→iP
open PySem.Heap.SameBut renaming update→cn
open PySem.PassesOwn renaming never→wm
open PySem.SeqAt.EqAt renaming same→BS
open PySem.W.Looks renaming of_pure→jn
open PySem.Walks renaming list→yo
set_option Elab.async false
set_option linter.all false
set_option maxRecDepth 100000
set_option maxHeartbeats 4000000
section
-- CHANGE: your row's module here,as the last of these rows
namespace L2
open PySem PySem.Spec PyProof.Rows
abbrev Key:=Sum Int Str
noncomputable def EN:Key->Value->Bool
 | .inl k,v=>Value.isInt k v
 | .inr x,v=>Value.isStrOf x v
noncomputable def Lg (w:World):Key->Int
 | .inl k=>hashInt k
 | .inr x=>hashStr w x
theorem cY:∀ {k:Key} {v:Value},EN k v = true->(∃ i t,k = Sum.inl i/\v = Value.int i t)\/(∃ x t,k = Sum.inr x/\v = Value.str x t)
 | .inl i,v,h=>by
   obtain ⟨t,e⟩:=Value.isInt_shape (k:=i) (v:=v) h
   exact .inl ⟨i,t,rfl,e⟩
 | .inr x,v,h=>by
   obtain ⟨t,e⟩:=Value.isStrOf_shape (x:=x) (v:=v) h
   exact .inr ⟨x,t,rfl,e⟩
theorem HR (a b:Int):decide ((Sum.inl a:Key) = Sum.inl b) = (a == b):=by
 by_cases e:a = b
 . subst e;simp
 . have h:¬ (Sum.inl a:Key) = Sum.inl b:=fun q=>e (Sum.inl.inj q)
   rw [decide_eq_false h]
   exact (beq_eq_false_iff_ne.mpr e).symm
theorem HN (a b:Str):decide ((Sum.inr a:Key) = Sum.inr b) = decide (a = b):=by
 by_cases e:a = b
 . subst e;simp
 . have h:¬ (Sum.inr a:Key) = Sum.inr b:=fun q=>e (Sum.inr.inj q)
   rw [decide_eq_false h,decide_eq_false e]
theorem HQ (a:Int) (b:Str):decide ((Sum.inl a:Key) = Sum.inr b) = false:=decide_eq_false (fun q=>nomatch q)
theorem HP (a:Str) (b:Int):decide ((Sum.inr a:Key) = Sum.inl b) = false:=decide_eq_false (fun q=>nomatch q)
noncomputable def qc (prog:Program) (w:World):PySem.KeyKind prog w Key where
 is:=EN
 hash:=Lg w
 inj:=fun v a b ha hb=>by
  rcases cY ha with ⟨i,t,rfl,rfl⟩ | ⟨x,t,rfl,rfl⟩
  . rcases cY hb with ⟨j,u,rfl,e⟩ | ⟨y,u,rfl,e⟩
    . injection e with e1 _;rw [e1]
    . exact nomatch e
  . rcases cY hb with ⟨j,u,rfl,e⟩ | ⟨y,u,rfl,e⟩
    . exact nomatch e
    . injection e with e1 _;rw [e1]
 byValue:=fun k v h=>by
  rcases cY h with ⟨i,t,rfl,rfl⟩ | ⟨x,t,rfl,rfl⟩<;>rfl
 pyHash:=fun hv h=>by
  rcases cY hv with ⟨i,t,rfl,rfl⟩ | ⟨x,t,rfl,rfl⟩
  . exact wpAny_pyHash_int h
  . exact wpAny_pyHash_str h
 eqBool:=fun hu hv h=>by
  rcases cY hu with ⟨i,t,rfl,rfl⟩ | ⟨x,t,rfl,rfl⟩
  . rcases cY hv with ⟨j,u,rfl,rfl⟩ | ⟨y,u,rfl,rfl⟩
    . rw [HR] at h;exact wpAny_eqBool_int h
    . rw [HQ] at h;exact SeqAt.EqAt.int_str i t y u _ _ _ _ h
  . rcases cY hv with ⟨j,u,rfl,rfl⟩ | ⟨y,u,rfl,rfl⟩
    . rw [HP] at h;exact SeqAt.EqAt.str_int x t j u _ _ _ _ h
    . rw [HN] at h;exact wpAny_eqBool_str h
 «strs»:=fun k x t v h=>by
  rcases cY h with ⟨i,u,rfl,e⟩ | ⟨y,u,rfl,e⟩
  . exact nomatch e
  . injection e with e1 _
    subst e1
    cases v<;>rfl
end L2
namespace L2
open PySem PySem.Spec PyProof.Rows
inductive V where
 | non | bl (b:Bool) | int (i:Int) | str (x:Str) | byt (b:Array UInt8) | flt (b:UInt64) | ref (a:Addr) | ty (n:String)
 deriving DecidableEq
noncomputable def RelV:V->Value->Prop
 | .non,u=>u = Value.none
 | .bl b,u=>u = Value.bool b
 | .int i,u=>∃ t,u = Value.int i t
 | .str x,u=>∃ t,u = Value.str x t
 | .byt b,u=>∃ t,u = Value.bytes b t
 | .flt b,u=>∃ t,u = Value.float b t
 | .ref a,u=>u = Value.ref a
 | .ty n,u=>u = Value.type n
abbrev Vals:List V->List Value->Prop:=Paired RelV
theorem Vals.length {xs:List V} {us:List Value} (r:Vals xs us):xs.length = us.length:=Paired.length r
theorem Vals.get:∀ {xs:List V} {us:List Value} {i:Nat} {x:V},Vals xs us->xs[i]? = some x->∃ u,us[i]? = some u/\RelV x u
 | _,_,_,_,.nil,e=>by simp at e
 | _,_,0,_,.cons r _,e=>by simp at e;subst e;exact ⟨_,rfl,r⟩
 | _,_,i+1,x,.cons _ t,e=>by
   obtain ⟨u,h1,h2⟩:=Vals.get (i:=i) (x:=x) t (by simpa using e)
   exact ⟨u,by simpa using h1,h2⟩
theorem Vals.set {x:V} {u:Value} (r:RelV x u):∀ {xs:List V} {us:List Value} (i:Nat),Vals xs us->Vals (xs.set i x) (us.set i u)
 | _,_,_,.nil=>.nil
 | _,_,0,.cons _ t=>.cons r t
 | _,_,i+1,.cons q t=>.cons q (Vals.set r i t)
theorem Vals.append:∀ {xs ys:List V} {us ws:List Value},Vals xs us->Vals ys ws->Vals (xs++ys) (us++ws)
 | _,_,_,_,.nil,s=>s
 | _,_,_,_,.cons r t,s=>.cons r (Vals.append t s)
theorem Vals.take:∀ {xs:List V} {us:List Value} (n:Nat),Vals xs us->Vals (xs.take n) (us.take n)
 | _,_,0,_=>.nil
 | _,_,_+1,.nil=>.nil
 | _,_,n+1,.cons r t=>.cons r (Vals.take n t)
theorem Vals.drop:∀ {xs:List V} {us:List Value} (n:Nat),Vals xs us->Vals (xs.drop n) (us.drop n)
 | _,_,0,r=>r
 | _,_,_+1,.nil=>.nil
 | _,_,n+1,.cons _ t=>Vals.drop n t
theorem Vals.none_of:∀ {xs:List V} {us:List Value} {i:Nat},Vals xs us->xs[i]? = none->us[i]? = none:=fun {xs us i} r e=>by
 have h1:=r.length
 have h2:xs.length<=i:=qH.mp e
 exact qH.mpr (by omega)
noncomputable def dN:Option V->Option Value->Prop
 | some v,some u=>RelV v u
 | none,none=>True
 | _,_=>False
noncomputable def KV {κ:Type}:List (κ × V)->List (κ × Value)->Prop:=Paired fun (p:κ × V) (q:κ × Value)=>p.1 = q.1/\RelV p.2 q.2
noncomputable def kV:Key->V
 | .inl i=>.int i
 | .inr x=>.str x
inductive HO where
 | lst (xs:List V)
 | tup (xs:List V)
 | dK (kvs:List (Key × V)) | dT (kvs:List (List Key × V))
 | set (S:Int->Bool) (n:Nat)
 | ins (C dx:Addr) (fs:List (Str × V))
 | own (x:Addr)
 | xd (fs:List (Str × V))
 | met (f x:Addr)
 | rng (lo hi:Int)
 | frz (o:Obj) (u:HO)
 | tbl (ps:Array Value)
 | ext (φ:Heap->Prop)
abbrev Hp:=Addr->Option HO
noncomputable def upd (H:Hp) (a:Addr) (o:HO):Hp:=fun b=>if b = a then some o else H b
theorem bt {H:Hp} {a:Addr} {o:HO}:upd H a o a = some o:=by unfold upd;rw [if_pos rfl]
theorem aV {H:Hp} {a b:Addr} {o:HO} (h:b≠a):upd H a o b = H b:=by unfold upd;rw [if_neg h]
theorem fi {H:Hp} {a b:Addr} {o:HO} (h:H a = some o) (h':H b = none):a≠b:=by
 intro e;subst e;rw [h] at h';cases h'
section
variable (P:Program) (w:World)
noncomputable def fI (H:Hp) (h:Heap) (a:Addr):HO->Prop
 | .lst xs=>xs.length<=sizeLine/\∃ (its:List Value) (n:Nat),Vals xs its/\h.get? a = some { cls:=.type "list",data:=.seq its.toArray n }
 | .tup xs=>xs.length<=sizeLine/\∃ its:List Value,Vals xs its/\IsTup h a its.toArray
 | .dK kvs=>kvs.length<=sizeLine/\(a == sysModules) = false/\∃ vs,KV kvs vs/\h.DictOf (qc P w) a vs
 | .dT kvs=>kvs.length<=sizeLine/\(a == sysModules) = false/\∃ xs:List (List Key × Addr × Value),
    Paired (fun (p:List Key × V) (q:List Key × Addr × Value)=>p.1 = q.1/\H q.2.1 = some (.tup (p.1.map kV))/\RelV p.2 q.2.2) kvs xs /\
    ∃ o es ep,h.get? a = some o/\o.ExactDict/\o.data = .dict es ep/\es.toList = xs.map (entryOfKey (tupleKind (qc P w)))/\(xs.map (·.1)).Nodup
 | .set S n=>h.SetOf (intKind P w) a S n
 | .ins C dx fs=>H dx = some (.own a)/\fs.length<=1000/\dx≠a/\h.get? a = some (PySem.W.instObj C dx) /\
    ∃ mA,h.Ns1 dx mA/\(∀ f,dN (fs.lookup f) (mA f))/\PySem.Within mA (fs.map (·.1))
 | .own _=>∃ o,h.get? a = some o
 | .xd fs=>∃ mA,h.Ns1 a mA/\∀ f,dN (fs.lookup f) (mA f)
 | .rng lo hi=>∃ t u v,h.get? a = some { cls:=.type "range",data:=.fields #[.int lo t,.int hi u,.int 1 v] }
 | .frz o u=>h.get? a = some o/\fI H h a u
 | .tbl ps=>h.get? a = some { cls:=.none,data:=.fields ps }
 | .met f x=>h.get? a = some (PySem.W.methodObj (.ref f) (.ref x))
 | .ext φ=>φ h/\(∃ o,h.get? a = some o)/\∀ h1 h2:Heap,φ h1->(∀ o,h1.get? a = some o->h2.get? a = some o)->φ h2
noncomputable def HOk (H:Hp) (h:Heap):Prop:=∀ a o,H a = some o->fI P w H h a o
end
section
variable {P:Program} {w:World} {H H':Hp} {h h':Heap} {a:Addr} {o:HO}
theorem fI.lt (x:fI P w H h a o):a < h.objs.size:=by
 cases o with
 | lst xs=>obtain ⟨_,_,_,_,e⟩:=x;exact aB e
 | tup xs=>obtain ⟨_,_,_,p⟩:=x;exact p.lt
 | dK kvs=>obtain ⟨_,_,_,_,o,_,_,e,_⟩:=x;exact aB e
 | dT kvs=>obtain ⟨_,_,_,_,o,_,_,e,_⟩:=x;exact aB e
 | set S n=>obtain ⟨o,_,_,_,e,_⟩:=x;exact aB e
 | ins C dx fs=>obtain ⟨_,_,_,e,_⟩:=x;exact aB e
 | own y=>obtain ⟨_,e⟩:=x;exact aB e
 | xd fs=>obtain ⟨_,⟨_,_,_,e,_⟩,_⟩:=x;exact aB e
 | rng lo hi=>obtain ⟨_,_,_,e⟩:=x;exact aB e
 | frz ob u=>obtain ⟨e,_⟩:=x;exact aB e
 | tbl ps=>exact aB (show h.get? a = some _ from x)
 | met f y=>exact aB (show h.get? a = some _ from x)
 | ext φ=>obtain ⟨_,⟨_,e⟩,_⟩:=x;exact aB e
theorem Paired.mapP {α β:Type} {F G:α->β->Prop}:∀ {l₁:List α} {l₂:List β},Paired F l₁ l₂->(∀ a b,F a b->G a b)->Paired G l₁ l₂
 | _,_,.nil,_=>.nil
 | _,_,.cons r t,f=>.cons (f _ _ r) (Paired.mapP t f)
theorem fI.stay (x:fI P w H h a o) (k:∀ b u,(b = a\/H b = some (.own a))->h.get? b = some u->h'.get? b = some u)
 (ho:∀ b,H b = some (.own a)->H' b = some (.own a)) (ht:∀ b xs,H b = some (.tup xs)->H' b = some (.tup xs)):fI P w H' h' a o:=by
 induction o with
 | lst xs=>obtain ⟨z,its,n,r,e⟩:=x;exact ⟨z,its,n,r,k _ _ (.inl rfl) e⟩
 | tup xs=>obtain ⟨z,its,r,ob,e,c⟩:=x;exact ⟨z,its,r,ob,k _ _ (.inl rfl) e,c⟩
 | dK kvs=>obtain ⟨z,y,vs,r,ob,es,ep,e,c⟩:=x;exact ⟨z,y,vs,r,ob,es,ep,k _ _ (.inl rfl) e,c⟩
 | dT kvs =>
   obtain ⟨z,y,xs,r,ob,es,ep,e,c⟩:=x
   exact ⟨z,y,xs,Paired.mapP r fun p q z=>⟨z.1,ht _ _ z.2.1,z.2.2⟩,ob,es,ep,k _ _ (.inl rfl) e,c⟩
 | set S n=>obtain ⟨ob,es,ep,t,e,c⟩:=x;exact ⟨ob,es,ep,t,k _ _ (.inl rfl) e,c⟩
 | ins C dx fs =>
   obtain ⟨d,z,ne,e,mA,⟨od,es,ep,e2,c⟩,r⟩:=x
   exact ⟨ho _ d,z,ne,k _ _ (.inl rfl) e,mA,⟨od,es,ep,k _ _ (.inr d) e2,c⟩,r⟩
 | own y=>obtain ⟨ob,e⟩:=x;exact ⟨ob,k _ _ (.inl rfl) e⟩
 | xd fs=>obtain ⟨mA,⟨od,es,ep,e,c⟩,r⟩:=x;exact ⟨mA,⟨od,es,ep,k _ _ (.inl rfl) e,c⟩,r⟩
 | rng lo hi=>obtain ⟨t,u,v,e⟩:=x;exact ⟨t,u,v,k _ _ (.inl rfl) e⟩
 | frz ob u ih=>obtain ⟨e,q⟩:=x;exact ⟨k _ _ (.inl rfl) e,ih q⟩
 | tbl ps =>
   have e:h.get? a = some { cls:=.none,data:=.fields ps }:=x
   show h'.get? a = some { cls:=.none,data:=.fields ps }
   exact k a _ (.inl rfl) e
 | met f y =>
   have e:h.get? a = some (PySem.W.methodObj (.ref f) (.ref y)):=x
   show h'.get? a = some (PySem.W.methodObj (.ref f) (.ref y))
   exact k a _ (.inl rfl) e
 | ext φ=>obtain ⟨p,⟨o,e⟩,st⟩:=x;exact ⟨st _ _ p fun o q=>k _ _ (.inl rfl) q,⟨o,k _ _ (.inl rfl) e⟩,st⟩
theorem HOk.lt (x:HOk P w H h) (e:H a = some o):a < h.objs.size:=(x a o e).lt
theorem HOk.fresh (x:HOk P w H h) (e:h.objs.size<=a):H a = none:=by
 cases q:H a with
 | none=>rfl
 | some u=>exact absurd (aP (x.lt q) e) (cI _)
theorem HOk.kept (x:HOk P w H h) (k:∀ b u,h.get? b = some u->h'.get? b = some u):HOk P w H h':=fun a o e =>
 (x a o e).stay (fun b u _ q=>k b u q) (fun _ q=>q) fun _ _ q=>q
theorem HOk.laid (x:HOk P w H h) (k:∀ b u,h.get? b = some u->h'.get? b = some u) (hp:h.objs.size<=a) (new:fI P w (upd H a o) h' a o):HOk P w (upd H a o) h':=fun b u e=>by
 have hn:=x.fresh hp
 by_cases hb:b = a
 . subst hb;rw [bt] at e;cases e;exact new
 . rw [aV hb] at e
   exact (x b u e).stay (fun c v _ q=>k c v q) (fun c q=>by rw [aV (fi q hn)];exact q) fun c xs q=>by rw [aV (fi q hn)];exact q
end
noncomputable def Rd (H:Hp) (a:Addr) (u:HO):Prop:=H a = some u\/∃ o,H a = some (.frz o u)
theorem Rd.of {H:Hp} {a:Addr} {u:HO} (h:H a = some u):Rd H a u:=.inl h
theorem Rd.ok {P:Program} {w:World} {H:Hp} {h:Heap} {a:Addr} {u:HO} (r:Rd H a u) (x:HOk P w H h):fI P w H h a u:=by
 rcases r with r | ⟨o,r⟩
 . exact x a u r
 . obtain ⟨_,q⟩:=x a _ r
   exact q
noncomputable def Mut:Option HO->Prop
 | some (.lst _)=>True
 | some (.dK _)=>True
 | some (.dT _)=>True
 | some (.set _ _)=>True
 | some (.ins _ _ _)=>True
 | some (.ext _)=>True
 | _=>False
section
variable {P:Program} {w:World} {H:Hp} {h h':Heap} {x e:Addr} {o':HO}
theorem HOk.write (ok:HOk P w H h) (mu:Mut (H x)) (he:e = x\/H e = some (.own x)) (k:∀ b u,b≠e->h.get? b = some u->h'.get? b = some u) (heo:∃ u,h'.get? e = some u)
 (new:fI P w (upd H x o') h' x o'):HOk P w (upd H x o') h':=fun b u q=>by
 have nown:∀ c y,H c = some (.own y)->c≠x:=fun c y r z=>by subst z;rw [r] at mu;exact mu
 have ntup:∀ c xs,H c = some (.tup xs)->c≠x:=fun c xs r z=>by subst z;rw [r] at mu;exact mu
 by_cases hb:b = x
 . subst hb;rw [bt] at q;cases q;exact new
 . rw [aV hb] at q
   by_cases hbe:b = e
   . have q':H b = some (.own x):=by
      rcases he with z | z
      . exact absurd (hbe.trans z) hb
      . rw [hbe];exact z
     rw [q] at q';cases q'
     obtain ⟨v,hv⟩:=heo
     exact ⟨v,by rw [hbe];exact hv⟩
   . refine (ok b u q).stay (fun c v hc r=>k c v ?_ r) (fun c r=>by rw [aV (nown c b r)];exact r) fun c xs r=>by rw [aV (ntup c xs r)];exact r
     rcases hc with rfl | hc
     . exact hbe
     . rintro rfl
       rcases he with z | z
       . exact nown c b hc z
       . rw [hc] at z;cases z;exact hb rfl
end
structure Un (fs ex:List Addr) (H H':Hp) (h h':Heap):Prop where
 keep:∀ b o,h.get? b = some o->H b = none->b∉fs->b∉ex->h'.get? b = some o
 slot:∀ b o,h.get? b = some o->H b = none->b∈fs->b∉ex->∃ sl,h'.get? b = some { o with slots:=sl }
 free:∀ b o,h.get? b = some o->H b = none->b∉ex->H' b = none
 there:∀ b o,h.get? b = some o->b∉ex->∃ o',h'.get? b = some o'
 tups:∀ b xs,H b = some (.tup xs)->H' b = some (.tup xs)
 frzs:∀ b o u,H b = some (.frz o u)->H' b = some (.frz o u)
 tbls:∀ b ps,H b = some (.tbl ps)->∃ more,H' b = some (.tbl (ps++more))
section
variable {fs fs' ex ex':List Addr} {H H1 H2:Hp} {h h1 h2 h':Heap} {a x e:Addr} {o:HO}
theorem Un.any (u:Un fs ex H H1 h h1) {b:Addr} {ob:Obj} (q:h.get? b = some ob) (n:H b = none) (hx:b∉ex):∃ sl,h1.get? b = some { ob with slots:=sl }:=by
 by_cases hb:b∈fs
 . exact u.slot b ob q n hb hx
 . exact ⟨ob.slots,u.keep b ob q n hb hx⟩
theorem Un.trans (a:Un fs ex H H1 h h1) (b:Un fs ex H1 H2 h1 h2):Un fs ex H H2 h h2 where
 keep:=fun c ob q n hc hx=>b.keep c ob (a.keep c ob q n hc hx) (a.free c ob q n hx) hc hx
 slot:=fun c ob q n hc hx=>by
  obtain ⟨sl,e1⟩:=a.slot c ob q n hc hx
  obtain ⟨sl',e2⟩:=b.slot c _ e1 (a.free c ob q n hx) hc hx
  exact ⟨sl',e2⟩
 free:=fun c ob q n hx=>by
  obtain ⟨o',e1⟩:=a.there c ob q hx
  exact b.free c o' e1 (a.free c ob q n hx) hx
 there:=fun c ob q hx=>by
  obtain ⟨o',e1⟩:=a.there c ob q hx
  exact b.there c o' e1 hx
 tups:=fun c xs q=>b.tups c xs (a.tups c xs q)
 frzs:=fun c ob xs q=>b.frzs c ob xs (a.frzs c ob xs q)
 tbls:=fun c ps q=>by
  obtain ⟨m1,e1⟩:=a.tbls c ps q
  obtain ⟨m2,e2⟩:=b.tbls c _ e1
  exact ⟨m1++m2,by rw [e2,yw]⟩
theorem Un.kept (k:∀ b u,h.get? b = some u->h'.get? b = some u):Un fs ex H H h h' :=
 ⟨fun b ob q _ _ _=>k b ob q,fun b ob q _ _ _=>⟨ob.slots,k b ob q⟩,fun _ _ _ n _=>n,fun b ob q _=>⟨ob,k b ob q⟩,fun _ _ q=>q,fun _ _ _ q=>q,fun _ ps q=>⟨#[],by rw [q];simp⟩⟩
theorem Un.refl:Un fs ex H H h h:=Un.kept fun _ _ q=>q
theorem Un.laid (k:∀ b u,h.get? b = some u->h'.get? b = some u) (hp:h.objs.size<=a) (hn:H a = none):Un fs ex H (upd H a o) h h' where
 keep:=fun b u q _ _ _=>k b u q
 slot:=fun b u q _ _ _=>⟨u.slots,k b u q⟩
 free:=fun b u q n _=>by rw [aV (aH (aP (aB q) hp))];exact n
 there:=fun b u q _=>⟨u,k b u q⟩
 tups:=fun b xs q=>by rw [aV (fi q hn)];exact q
 frzs:=fun b u xs q=>by rw [aV (fi q hn)];exact q
 tbls:=fun b ps q=>⟨#[],by rw [aV (fi q hn),q];simp⟩
theorem Un.write (mu:Mut (H x)) (he:e = x\/H e = some (.own x)) (k:∀ b u,b≠e->h.get? b = some u->h'.get? b = some u) (heo:∃ u,h'.get? e = some u):Un fs ex H (upd H x o) h h':=by
 have hx:∀ b,H b = none->b≠x:=fun b n z=>by subst z;rw [n] at mu;exact mu
 have hb:∀ b,H b = none->b≠e:=fun b n z=>by
  subst z
  rcases he with r | r
  . exact hx b n r
  . rw [n] at r;cases r
 have hm:∀ b u,H b = some u->¬ Mut (some u)->b≠x:=fun b u q nm z=>by subst z;rw [q] at mu;exact nm mu
 refine ⟨fun b u q n _ _=>k b u (hb b n) q,fun b u q n _ _=>⟨u.slots,k b u (hb b n) q⟩,fun b u q n _=>by rw [aV (hx b n)];exact n,fun b u q _=>?_,
  fun b xs q=>by rw [aV (hm b _ q fun z=>z)];exact q,fun b u xs q=>by rw [aV (hm b _ q fun z=>z)];exact q,fun b ps q=>⟨#[],by rw [aV (hm b _ q fun z=>z),q];simp⟩⟩
 by_cases hbe:b = e
 . subst hbe;exact heo
 . exact ⟨u,k b u hbe q⟩
theorem Un.mono (u:Un fs ex H H1 h h1) (hs:∀ b∈fs,b∈fs') (hx:∀ b∈ex,b∈ex'):Un fs' ex' H H1 h h1 :=
 ⟨fun b ob q n hb he=>u.keep b ob q n (fun z=>hb (hs b z)) fun z=>he (hx b z),fun _ _ q n _ he=>u.any q n fun z=>he (hx _ z),fun b ob q n he=>u.free b ob q n fun z=>he (hx b z),fun b ob q he=>u.there b ob q fun z=>he (hx b z),u.tups,u.frzs,u.tbls⟩
end
noncomputable def trk (h:Heap) (H:Hp):List Addr:=(List.range h.objs.size).filter fun a=>(H a).isSome
noncomputable def jf (h:Heap) (H:Hp):Heap:=PySem.W.hideAll h (trk h H)
theorem oO (h:Heap) (H:Hp):(jf h H).objs.size = h.objs.size:=PySem.W.hideAll_size _ _
theorem sD {h:Heap} {H:Hp} {b:Addr} {o:Obj} (e:h.get? b = some o) (n:H b = none):(jf h H).get? b = some o :=
 PySem.W.hideAll_get _ e fun hm=>by
  have q:(H b).isSome = true:=(eN.mp hm).2
  rw [n] at q;simp at q
theorem vz {h:Heap} {H:Hp} {b:Addr} {o:Obj} (e:(jf h H).get? b = some o):h.get? b = some o/\H b = none:=by
 have e':h.get? b = some o:=PySem.W.of_hideAll (trk h H) e
 refine ⟨e',?_⟩
 cases q:H b with
 | none=>rfl
 | some x =>
   have hm:b∈trk h H:=eN.mpr ⟨dR.mpr (aB e'),by simp [q]⟩
   have z:(jf h H).get? b = none:=PySem.W.hideAll_none (trk h H) hm
   rw [z] at e;cases e
noncomputable def Er (g h:Heap) (L:Addr):List (Addr × Obj):=(List.range h.objs.size).filterMap fun a=>if a = L\/(g.get? a).isSome = true then none else (h.get? a).map fun o=>(a,o)
noncomputable def rest (g h:Heap) (L d:Addr):List (Addr × Obj):=(Er g h L).filter fun p=>decide (p.1≠d)
end L2
namespace L2
open PySem PySem.Spec PyProof.Rows
structure Mod (K:PySem.W.Frag) (mg:Str->Option Value) (base:Heap):Prop where
 kin:K.In base
 glob:base.Ns mainGlobals mg
 blt:∃ mb,base.Ns builtinsNs mb/\∀ x:Str,x≠"__name__"->mb x = bootBuiltins x
 nolimit:base.NoLimit
structure Cx where
 prog:Program
 w:World
 K:PySem.W.Frag
 mg:Str->Option Value
 base:Heap
 A:Around
 N:List Str
 s₀:Shared
 H₀:Hp
 env:Env
 outer:List Env
 stack:List Env
 ex:List Addr
 fn:Str->Bool
 calm:Bool
 pn:List (Addr × Obj)
 xe:Value->Shared->Prop
noncomputable def frs (l:List Env):List Addr:=l.filterMap (·.frame)
noncomputable abbrev Cx.fs (X:Cx):List Addr:=frs X.outer
noncomputable def Vis (sc:Scope) (x:Str):Prop:=sc.names.lookup x = some .local\/sc.names.lookup x = some .cell\/sc.names.lookup x = some .free
noncomputable def Loc (sc:Scope) (x:Str):Prop:=sc.names.lookup x = some .local\/sc.names.lookup x = some .cell
noncomputable def Look (env:Env) (h:Heap) (m:Str->Option Value) (x:Str) (u:Value):Prop :=
 (env.kindOf x = some .local/\m x = some u)\/((env.kindOf x = some .cell\/env.kindOf x = some .free)/\∃ c,env.cells.lookup x = some c/\h.IsCell c (some u))
structure Cx.Ok (X:Cx):Prop where
 mod:Mod X.K X.mg X.base
 kind:X.env.scope.kind = .function
 glob:X.env.globals = mainGlobals
 blt:X.env.builtins = builtinsNs
 above:X.s₀.heap.objs.size<=X.env.locals
 inj:∀ x y c,X.env.cells.lookup x = some c->X.env.cells.lookup y = some c->x = y
 has:∀ x,(X.env.kindOf x = some .cell\/X.env.kindOf x = some .free)->∃ c,X.env.cells.lookup x = some c
 cab:∀ x c,X.fn x = true->X.env.cells.lookup x = some c->X.s₀.heap.objs.size<=c
 hd:X.calm = true->X.A.handled = none
 frames:X.A.frames = some X.stack
 stk:X.stack = X.outer\/(X.stack = X.env::X.outer/\X.env.frame = some X.env.locals)
 exf:∀ b∈X.ex,b≠X.env.locals/\∀ x c,X.env.cells.lookup x = some c->c≠b
 bs:∀ b o,X.base.get? b = some o->X.s₀.heap.get? b = some o/\X.H₀ b = none
 bsz:X.base.objs.size<=X.s₀.heap.objs.size
 noex:∀ b o,X.base.get? b = some o->b∉X.ex
 exfs:∀ b∈X.ex,b∉X.fs
 funs:X.s₀.heap.FunFrames X.base X.outer
 frf:∀ b∈X.fs,X.H₀ b = none
structure Inv (X:Cx) (pins:List (Addr × Obj)) (σ:List (Option V)) (H:Hp) (s:Shared):Prop where
 ok:X.Ok
 os:s.os = X.s₀.os
 bare:AllBare s.gens
 base:Un X.fs X.ex X.H₀ H X.s₀.heap s.heap
 loc:∃ m,s.heap.Ns X.env.locals m/\∀ (i:Nat) (x:Str) (v:V),X.N[i]? = some x->σ[i]? = some (some v)->Vis X.env.scope x->∃ u,RelV v u/\Look X.env s.heap m x u
 cell:∀ x c,X.env.cells.lookup x = some c->∃ v,s.heap.IsCell c v
 free:H X.env.locals = none
 freeC:∀ x c,X.env.cells.lookup x = some c->H c = none
 pin:∀ p∈X.pn++pins,s.heap.get? p.1 = some p.2/\H p.1 = none/\p.1≠X.env.locals/\p.1∉X.fs/\∀ v,p.2.data≠.cell v
 hok:HOk X.prog X.w H s.heap
 len:σ.length = X.N.length
section
variable {X:Cx} {pins:List (Addr × Obj)} {σ:List (Option V)} {H H':Hp} {s:Shared} {h':Heap}
theorem Cx.Ok.nofr (ok:X.Ok) {b:Addr} {o:Obj} (e:X.base.get? b = some o):b∉X.fs:=fun hb=>by
 have:=(ok.funs.mem hb).1
 rw [e] at this;cases this
theorem Inv.bs (I:Inv X pins σ H s):∀ b o,X.base.get? b = some o->s.heap.get? b = some o/\H b = none:=fun b o e =>
 ⟨I.base.keep b o (I.ok.bs b o e).1 (I.ok.bs b o e).2 (I.ok.nofr e) (I.ok.noex b o e),I.base.free b o (I.ok.bs b o e).1 (I.ok.bs b o e).2 (I.ok.noex b o e)⟩
theorem Inv.bk (I:Inv X pins σ H s):∀ b o,X.base.get? b = some o->s.heap.get? b = some o:=fun b o e=>(I.bs b o e).1
theorem Inv.mod (I:Inv X pins σ H s):Mod X.K X.mg X.base:=I.ok.mod
theorem Inv.kIn (I:Inv X pins σ H s):X.K.In s.heap:=I.ok.mod.kin.keeps I.bk
theorem Inv.nolimit (I:Inv X pins σ H s):s.heap.NoLimit:=I.ok.mod.nolimit.keeps I.bk
theorem Inv.fr (I:Inv X pins σ H s):∃ m,Fr X.base X.env.locals s.heap m :=
 let ⟨m,hn,_⟩:=I.loc
 ⟨m,hn,I.bk,bK I.ok.bsz I.ok.above⟩
theorem Inv.lt (I:Inv X pins σ H s):X.env.locals < s.heap.objs.size:=let ⟨_,hn,_⟩:=I.loc;hn.lt
theorem Inv.sz (I:Inv X pins σ H s):X.s₀.heap.objs.size<=s.heap.objs.size:=bK I.ok.above (iG I.lt)
theorem Inv.nofs (I:Inv X pins σ H s) {a:Addr} (h:s.heap.objs.size<=a):a∉X.fs:=fun hb=>by
 obtain ⟨_,o,ho,_⟩:=I.ok.funs.mem hb
 exact absurd (aP (aB ho) (bK I.sz h)) (cI _)
theorem Inv.cne (I:Inv X pins σ H s):∀ x c,X.env.cells.lookup x = some c->c≠X.env.locals:=fun x c e z=>by
 obtain ⟨v,o,ho,hd⟩:=I.cell x c e
 obtain ⟨m,⟨o',es,ep,ho',hd',_⟩,_⟩:=I.loc
 rw [z,ho'] at ho;cases ho;rw [hd'] at hd;cases hd
theorem Inv.funs (I:Inv X pins σ H s):s.heap.FunFrames X.base X.outer:=by
 have all:∀ (l:List Env),(∀ b∈frs l,b∈X.fs)->X.s₀.heap.FunFrames X.base l->s.heap.FunFrames X.base l:=by
  intro l
  induction l with
  | nil=>intro _ _;trivial
  | cons env r ih =>
    intro hs hl
    obtain ⟨hk,⟨L,o,hf,hn,ho,hd⟩,hr⟩:=hl
    have hL:L∈X.fs:=hs L (by unfold frs;rw [fW,hf];exact ak)
    obtain ⟨sl,e⟩:=I.base.slot L o ho (I.ok.frf L hL) hL fun z=>I.ok.exfs L z hL
    exact ⟨hk,⟨L,_,hf,hn,e,hd⟩,ih (fun b hb=>hs b (by unfold frs;rw [fW,hf];exact av _ hb)) hr⟩
 exact all X.outer (fun _ hb=>hb) I.ok.funs
theorem Inv.stack (I:Inv X pins σ H s):s.heap.FunFrames X.base X.stack:=by
 rcases I.ok.stk with e | ⟨e,hf⟩
 . rw [e];exact I.funs
 . rw [e]
   obtain ⟨m,hn,_⟩:=I.loc
   refine .cons (by rw [I.ok.kind];decide) hf hn ?_ I.funs
   exact Heap.get?_none_of_le (bK I.ok.bsz I.ok.above)
theorem Inv.stkSub (I:Inv X pins σ H s):∀ b∈frs X.stack,b∈X.env.locals::X.fs:=fun b hb=>by
 rcases I.ok.stk with e | ⟨e,hf⟩
 . rw [e] at hb;exact av _ hb
 . rw [e] at hb
   unfold frs at hb
   rw [fW,hf] at hb
   exact hb
theorem Inv.stkFree (I:Inv X pins σ H s):∀ b∈frs X.stack,H b = none:=fun b hb=>by
 rcases aQ.mp (I.stkSub b hb) with e | hb
 . rw [e];exact I.free
 . obtain ⟨_,o,ho,_⟩:=I.ok.funs.mem hb
   exact I.base.free b o ho (I.ok.frf b hb) fun z=>I.ok.exfs b z hb
theorem Inv.step {g':Array GenState} {t':Nat} {d':Drawn} {ch:List Addr} (I:Inv X pins σ H s)
 (hch:∀ b∈ch,(b∈X.ex\/X.s₀.heap.objs.size<=b)/\b≠X.env.locals/\(∀ x c,X.env.cells.lookup x = some c->c≠b)/\∀ p∈X.pn++pins,p.1≠b)
 (keep:∀ b o,b≠X.env.locals->b∉X.fs->b∉ch->s.heap.get? b = some o->H b = none->h'.get? b = some o)
 (slot:∀ b o,b≠X.env.locals->b∈X.fs->b∉ch->s.heap.get? b = some o->H b = none->∃ sl,h'.get? b = some { o with slots:=sl }) (free:∀ b o,b∉ch->s.heap.get? b = some o->H b = none->H' b = none)
 (there:∀ b o,b∉ch->s.heap.get? b = some o->∃ o',h'.get? b = some o')
 (tups:∀ b xs,H b = some (.tup xs)->H' b = some (.tup xs)) (frzs:∀ b o u,H b = some (.frz o u)->H' b = some (.frz o u)) (tbls:∀ b ps,H b = some (.tbl ps)->∃ more,H' b = some (.tbl (ps++more)))
 (ns:∀ m,s.heap.Ns X.env.locals m->h'.Ns X.env.locals m) (hok:HOk X.prog X.w H' h') (hg:AllBare g') :
 Inv X pins σ H' { s with heap:=h',gens:=g',drawn:=d',toks:=t' }:=by
 have neL:∀ b o,X.s₀.heap.get? b = some o->b≠X.env.locals:=fun b o e=>aH (aP (aB e) I.ok.above)
 have neC:∀ b o,X.s₀.heap.get? b = some o->b∉X.ex->b∉ch:=fun b o e hx hb=>by
  rcases (hch b hb).1 with z | z
  . exact hx z
  . exact absurd (aP (aB e) z) (cI _)
 have cellK:∀ x c,X.env.cells.lookup x = some c->∀ v,s.heap.IsCell c v->h'.IsCell c v:=fun x c e v ⟨o,ho,hd⟩=>by
  have nch:c∉ch:=fun z=>(hch c z).2.2.1 x c e rfl
  by_cases hc:c∈X.fs
  . obtain ⟨sl,q⟩:=slot c o (I.cne x c e) hc nch ho (I.freeC x c e)
    exact ⟨_,q,hd⟩
  . exact ⟨o,keep c o (I.cne x c e) hc nch ho (I.freeC x c e),hd⟩
 refine ⟨I.ok,I.os,hg,⟨fun b o e n hb hx=>?_,fun b o e n hb hx=>?_,fun b o e n hx=>?_,fun b o e hx=>?_,fun b xs e=>tups b xs (I.base.tups b xs e),fun b o xs e=>frzs b o xs (I.base.frzs b o xs e),fun b ps e=>?_⟩,?_,fun x c e=>?_,?_,fun x c e=>?_,fun p hp=>?_,hok,I.len⟩
 . exact keep b o (neL b o e) hb (neC b o e hx) (I.base.keep b o e n hb hx) (I.base.free b o e n hx)
 . obtain ⟨sl,e1⟩:=I.base.slot b o e n hb hx
   obtain ⟨sl',e2⟩:=slot b _ (neL b o e) hb (neC b o e hx) e1 (I.base.free b o e n hx)
   exact ⟨sl',e2⟩
 . obtain ⟨o',e1⟩:=I.base.there b o e hx
   exact free b o' (neC b o e hx) e1 (I.base.free b o e n hx)
 . obtain ⟨o',e1⟩:=I.base.there b o e hx
   exact there b o' (neC b o e hx) e1
 . obtain ⟨m1,e1⟩:=I.base.tbls b ps e
   obtain ⟨m2,e2⟩:=tbls b _ e1
   exact ⟨m1++m2,by rw [e2,yw]⟩
 . obtain ⟨m,hn,hl⟩:=I.loc
   refine ⟨m,ns m hn,fun i x v e1 e2 e3=>?_⟩
   obtain ⟨u,r,l⟩:=hl i x v e1 e2 e3
   refine ⟨u,r,?_⟩
   rcases l with l | ⟨k,c,e,z⟩
   . exact .inl l
   . exact .inr ⟨k,c,e,cellK x c e _ z⟩
 . obtain ⟨v,z⟩:=I.cell x c e
   exact ⟨v,cellK x c e v z⟩
 . obtain ⟨m,⟨o,_,_,ho,_⟩,_⟩:=I.loc
   exact free _ o (fun z=>(hch _ z).2.1 rfl) ho I.free
 . obtain ⟨v,o,ho,hd⟩:=I.cell x c e
   exact free c o (fun z=>(hch c z).2.2.1 x c e rfl) ho (I.freeC x c e)
 . obtain ⟨e,n,ne,nf,d⟩:=I.pin p hp
   have nch:p.1∉ch:=fun z=>(hch p.1 z).2.2.2 p hp rfl
   exact ⟨keep p.1 p.2 ne nf nch e n,free p.1 p.2 nch e n,ne,nf,d⟩
theorem Inv.un {t':Nat} (I:Inv X pins σ H s) (u:Un X.fs [] H H' s.heap h') (hok:HOk X.prog X.w H' h'):Inv X pins σ H' { s with heap:=h',toks:=t' }:=by
 obtain ⟨m,⟨o,es,ep,ho,r⟩,_⟩:=id I.loc
 obtain ⟨sl,hL⟩:=u.any ho I.free (by simp)
 exact I.step (g':=s.gens) (d':=s.drawn) (ch:=[]) (fun _ z=>nomatch z) (fun b o _ hb _ e n=>u.keep b o e n hb (by simp)) (fun b o _ hb _ e n=>u.slot b o e n hb (by simp)) (fun b o _ e n=>u.free b o e n (by simp)) (fun b o _ e=>u.there b o e (by simp)) u.tups u.frzs u.tbls (fun m' hm=>by
  obtain ⟨o',es',ep',ho',r'⟩:=hm
  rw [ho] at ho';cases ho'
  exact ⟨_,es',ep',hL,r'⟩) hok I.bare
theorem Inv.call {g':Array GenState} {t':Nat} {d':Drawn} {ch:List Addr} (I:Inv X pins σ H s) (u:Un (frs X.stack) ch H H' s.heap h') (hok:HOk X.prog X.w H' h') (hg:AllBare g')
 (hch:∀ b∈ch,(b∈X.ex\/X.s₀.heap.objs.size<=b)/\b≠X.env.locals/\(∀ x c,X.env.cells.lookup x = some c->c≠b)/\∀ p∈X.pn++pins,p.1≠b) :
 Inv X pins σ H' { s with heap:=h',gens:=g',drawn:=d',toks:=t' }:=by
 obtain ⟨m,⟨o,es,ep,ho,r⟩,_⟩:=id I.loc
 obtain ⟨sl,hL⟩:=u.any ho I.free fun z=>(hch _ z).2.1 rfl
 exact I.step (ch:=ch) hch (fun b o hL hb hc e n=>u.keep b o e n (fun z=>(aQ.mp (I.stkSub b z)).elim hL hb) hc) (fun b o _ _ hc e n=>u.any e n hc) (fun b o hc e n=>u.free b o e n hc) (fun b o hc e=>u.there b o e hc) u.tups u.frzs u.tbls (fun m' hm=>by
  obtain ⟨o',es',ep',ho',r'⟩:=hm
  rw [ho] at ho';cases ho'
  exact ⟨_,es',ep',hL,r'⟩) hok hg
theorem Inv.turned {t':Nat} {it:Addr} (I:Inv X pins σ H s) (k:∀ b o,b≠it->s.heap.get? b = some o->h'.get? b = some o) (hn:H it = none) (hL:it≠X.env.locals)
 (h1:it∈X.ex\/X.s₀.heap.objs.size<=it) (h2:∀ x c,X.env.cells.lookup x = some c->c≠it) (h3:∀ p∈X.pn++pins,p.1≠it):Inv X pins σ H { s with heap:=h',toks:=t' }:=by
 have nit:∀ b u,H b = some u->b≠it:=fun b u e z=>by rw [z,hn] at e;cases e
 refine I.step (g':=s.gens) (d':=s.drawn) (ch:=[it]) (fun b hb=>?_) (fun b o _ _ hc e _=>k b o (fun z=>hc (by simp [z])) e) (fun b o _ _ hc e _=>⟨o.slots,k b o (fun z=>hc (by simp [z])) e⟩) (fun _ _ _ _ n=>n)
  (fun b o hc e=>⟨o,k b o (fun z=>hc (by simp [z])) e⟩) (fun _ _ e=>e) (fun _ _ _ e=>e) (fun b ps e=>⟨#[],by rw [e];simp⟩) (fun m hm=>?_) (fun b u e=>?_) I.bare
 . have e:b = it:=by simpa using hb
   subst e
   exact ⟨h1,hL,h2,h3⟩
 . obtain ⟨o,es,ep,ho,r⟩:=hm
   exact ⟨o,es,ep,k _ o (Ne.symm hL) ho,r⟩
 . refine (I.hok b u e).stay (fun c v hc q=>k c v ?_ q) (fun _ q=>q) fun _ _ q=>q
   rcases hc with z | z
   . rw [z];exact nit b u e
   . exact nit c _ z
theorem Inv.tok (I:Inv X pins σ H s) (t:Nat):Inv X pins σ H { s with toks:=t }:=I.un (h':=s.heap) (t':=t) Un.refl I.hok
theorem Inv.kept {t':Nat} (I:Inv X pins σ H s) (k:∀ b u,s.heap.get? b = some u->h'.get? b = some u):Inv X pins σ H { s with heap:=h',toks:=t' }:=I.un (Un.kept k) (I.hok.kept k)
theorem Inv.laid {a:Addr} {o:HO} {t':Nat} (I:Inv X pins σ H s) (k:∀ b u,s.heap.get? b = some u->h'.get? b = some u) (hp:s.heap.objs.size<=a) (new:fI X.prog X.w (upd H a o) h' a o) :
 Inv X pins σ (upd H a o) { s with heap:=h',toks:=t' }:=I.un (Un.laid k hp (I.hok.fresh hp)) (I.hok.laid k hp new)
theorem Inv.write {x e:Addr} {o:HO} {t':Nat} (I:Inv X pins σ H s) (mu:Mut (H x)) (he:e = x\/H e = some (.own x)) (k:∀ b u,b≠e->s.heap.get? b = some u->h'.get? b = some u) (heo:∃ u,h'.get? e = some u)
 (new:fI X.prog X.w (upd H x o) h' x o):Inv X pins σ (upd H x o) { s with heap:=h',toks:=t' }:=I.un (Un.write mu he k heo) (I.hok.write mu he k heo new)
theorem Inv.pins_of {pins':List (Addr × Obj)} (I:Inv X pins σ H s) (h:∀ p∈pins',s.heap.get? p.1 = some p.2/\H p.1 = none/\p.1≠X.env.locals/\p.1∉X.fs/\∀ v,p.2.data≠.cell v):Inv X pins' σ H s :=
 ⟨I.ok,I.os,I.bare,I.base,I.loc,I.cell,I.free,I.freeC,fun p hp=>(cg.mp hp).elim (fun z=>I.pin p (fJ _ z)) (h p),I.hok,I.len⟩
theorem si {N:List Str} (hN:N.Nodup) {i j:Nat} {x:Str} (a:N[i]? = some x) (b:N[j]? = some x):i = j:=by
 obtain ⟨h1,e1⟩:=aE.mp a
 obtain ⟨h2,e2⟩:=aE.mp b
 exact (List.getElem_inj hN).mp (e1.trans e2.symm)
theorem xj {M:Model} {A:Around} {E:Value->Shared->Prop} {i:Nat} {x:Str} {v:V} {u:Value} {Q:Unit->Shared->Prop} (I:Inv X pins σ H s) (hN:X.N.Nodup) (hi:X.N[i]? = some x) (hx:Loc X.env.scope x) (r:RelV v u)
 (h:∀ s',Inv X pins (σ.set i (some v)) H s'->(∃ a,Heap.SameBut a s.heap s'.heap/\(a = X.env.locals\/X.env.cells.lookup x = some a))->Q () s') (hf:X.fn x = true\/X.env.scope.names.lookup x = some .local:=by first | exact .inl rfl | exact .inr rfl | assumption):wpAny M A (storeName X.env x u) Q E s:=by
 obtain ⟨m,hn,hl⟩:=id I.loc
 have hcls:(X.env.scope.kind == .class || (X.env.scope.kind == .module && X.env.locals != X.env.globals)) = false:=by rw [I.ok.kind];rfl
 have hiσ:i < σ.length:=by rw [I.len];exact (aE.mp hi).1
 have cne:=I.cne
 have tracked:∀ {a:Addr} {h':Heap},(∃ o,s.heap.get? a = some o/\H a = none)->Heap.SameBut a s.heap h'->HOk X.prog X.w H h':=fun {a h'} ha hs b ob e=>by
  obtain ⟨_,_,hfree⟩:=ha
  refine (I.hok b ob e).stay (fun c w' hc q=>(hs.2 c ?_).trans q) (fun _ q=>q) fun _ _ q=>q
  rintro rfl
  rcases hc with rfl | hc
  . rw [hfree] at e;cases e
  . rw [hfree] at hc;cases hc
 rcases hx with hk | hk
 . refine wpAny_storeName_local hk hn (fun h' hn' hs=>?_) hcls
   obtain ⟨oL,_,_,hoL,_⟩:=id hn
   refine h _ ⟨I.ok,I.os,I.bare,⟨fun b o e n hb hx=>?_,fun b o e n hb hx=>?_,I.base.free,fun b o e hx=>?_,I.base.tups,I.base.frzs,I.base.tbls⟩,⟨_,hn',fun j y v' e1 e2 e3=>?_⟩,fun y c e=>?_,I.free,I.freeC,fun p hp=>?_,tracked ⟨oL,hoL,I.free⟩ hs,by simpa using I.len⟩ ⟨_,hs,.inl rfl⟩
   . exact (hs.2 b (aH (aP (aB e) I.ok.above))).trans (I.base.keep b o e n hb hx)
   . obtain ⟨sl,e1⟩:=I.base.slot b o e n hb hx
     exact ⟨sl,(hs.2 b (aH (aP (aB e) I.ok.above))).trans e1⟩
   . obtain ⟨o',e1⟩:=I.base.there b o e hx
     exact ⟨o',(hs.2 b (aH (aP (aB e) I.ok.above))).trans e1⟩
   . by_cases hj:j = i
     . subst hj
       rw [hi] at e1;cases e1
       rw [bH hiσ] at e2
       cases e2
       exact ⟨u,r,.inl ⟨hk,by simp⟩⟩
     . rw [aK (Ne.symm hj)] at e2
       obtain ⟨u',r',q⟩:=hl j y v' e1 e2 e3
       refine ⟨u',r',?_⟩
       rcases q with ⟨k,e⟩ | ⟨k,c,e,z⟩
       . refine .inl ⟨k,?_⟩
         have:y≠x:=fun e=>hj (si hN e1 (e▸hi))
         simp [this,e]
       . exact .inr ⟨k,c,e,z.sameBut hs (cne y c e)⟩
   . obtain ⟨w',z⟩:=I.cell y c e
     exact ⟨w',z.sameBut hs (cne y c e)⟩
   . obtain ⟨e,n,ne,nf,d⟩:=I.pin p hp
     exact ⟨(hs.2 p.1 ne).trans e,n,ne,nf,d⟩
 . have hfn:X.fn x = true:=by
    rcases hf with z | z
    . exact z
    . rw [z] at hk;cases hk
   obtain ⟨c,hc⟩:=I.ok.has x (.inl hk)
   obtain ⟨w',z⟩:=I.cell x c hc
   refine wpAny_storeName_cell I.ok.kind hk hc z (fun h' hc' hs=>?_)
   obtain ⟨oc,hoc,hocd⟩:=id z
   refine h { s with heap:=h' } ⟨I.ok,I.os,I.bare,⟨fun b o e n hb hx=>?_,fun b o e n hb hx=>?_,I.base.free,fun b o e hx=>?_,I.base.tups,I.base.frzs,I.base.tbls⟩,⟨m,hn.sameBut hs (Ne.symm (cne x c hc)),fun j y v' e1 e2 e3=>?_⟩,fun y c' e=>?_,I.free,I.freeC,fun p hp=>?_,tracked ⟨oc,hoc,I.freeC x c hc⟩ hs,by simpa using I.len⟩ ⟨c,hs,.inr hc⟩
   . exact (hs.2 b (aH (aP (aB e) (I.ok.cab x c hfn hc)))).trans (I.base.keep b o e n hb hx)
   . obtain ⟨sl,e1⟩:=I.base.slot b o e n hb hx
     exact ⟨sl,(hs.2 b (aH (aP (aB e) (I.ok.cab x c hfn hc)))).trans e1⟩
   . obtain ⟨o',e1⟩:=I.base.there b o e hx
     exact ⟨o',(hs.2 b (aH (aP (aB e) (I.ok.cab x c hfn hc)))).trans e1⟩
   . by_cases hj:j = i
     . subst hj
       rw [hi] at e1;cases e1
       rw [bH hiσ] at e2
       cases e2
       exact ⟨u,r,.inr ⟨.inl hk,c,hc,hc'⟩⟩
     . rw [aK (Ne.symm hj)] at e2
       obtain ⟨u',r',q⟩:=hl j y v' e1 e2 e3
       refine ⟨u',r',?_⟩
       rcases q with q | ⟨k,c',e,z'⟩
       . exact .inl q
       . refine .inr ⟨k,c',e,z'.sameBut hs ?_⟩
         rintro rfl
         exact hj (si hN e1 (I.ok.inj _ _ _ e hc▸hi))
   . by_cases hcc:c' = c
     . subst hcc;exact ⟨_,hc'⟩
     . obtain ⟨w2,z2⟩:=I.cell y c' e
       exact ⟨w2,z2.sameBut hs hcc⟩
   . obtain ⟨e,n,ne,nf,d⟩:=I.pin p hp
     refine ⟨(hs.2 p.1 ?_).trans e,n,ne,nf,d⟩
     intro q
     rw [q,hoc] at e
     have q':oc = p.2:=aX e
     exact d w' (by rw [<- q'];exact hocd)
theorem ju {M:Model} {A:Around} {E:Value->Shared->Prop} {i:Nat} {x:Str} {v:V} {u:Value} {Q:Unit->Shared->Prop} (I:Inv X pins σ H s) (hN:X.N.Nodup) (hi:X.N[i]? = some x) (hx:Loc X.env.scope x) (r:RelV v u)
 (h:∀ s',Inv X pins (σ.set i (some v)) H s'->Q () s') (hf:X.fn x = true\/X.env.scope.names.lookup x = some .local:=by first | exact .inl rfl | exact .inr rfl | assumption):wpAny M A (storeName X.env x u) Q E s :=
 xj I hN hi hx r (fun s' I' _=>h s' I') hf
theorem Inv.call' {s':Shared} {ch:List Addr} (I:Inv X pins σ H s) (ho:s'.os = s.os) (u:Un (frs X.stack) ch H H' s.heap s'.heap) (hok:HOk X.prog X.w H' s'.heap) (hg:AllBare s'.gens)
 (hch:∀ b∈ch,(b∈X.ex\/X.s₀.heap.objs.size<=b)/\b≠X.env.locals/\(∀ x c,X.env.cells.lookup x = some c->c≠b)/\∀ p∈X.pn++pins,p.1≠b):Inv X pins σ H' s':=by
 obtain ⟨h',g',d',t',o'⟩:=s'
 have e:o' = s.os:=ho
 subst e
 exact I.call (g':=g') (t':=t') (d':=d') u hok hg hch
end
abbrev XK:=Value->Option Addr->Hp->Prop
abbrev St:=List (Option V)
abbrev VK:=V->Hp->Prop
abbrev TE:=St->Hp->VK->Prop
abbrev TT:=St->Hp->(Bool->Hp->Prop)->Prop
abbrev TA:=St->Hp->(List V->Hp->Prop)->Prop
structure Ends where
 nx:St->Hp->Prop
 rt:VK
 bk:St->Hp->Prop:=fun _ _=>False
 ct:St->Hp->Prop:=fun _ _=>False
abbrev TS:=Ends->St->Hp->Prop
noncomputable def EP (X:Cx) (pins:List (Addr × Obj)) (σ:St) (Q:VK) (u:Value) (s':Shared):Prop:=∃ v H',Inv X pins σ H' s'/\RelV v u/\Q v H'
noncomputable def TP (X:Cx) (pins:List (Addr × Obj)) (σ:St) (Q:Bool->Hp->Prop) (b:Bool) (s':Shared):Prop:=∃ H',Inv X pins σ H' s'/\Q b H'
noncomputable def AP (X:Cx) (pins:List (Addr × Obj)) (σ:St) (Q:List V->Hp->Prop) (us:List Value) (s':Shared):Prop:=∃ vs H',Inv X pins σ H' s'/\Vals vs us/\Q vs H'
noncomputable def SP (X:Cx) (pins:List (Addr × Obj)) (D:Ends) (f:Flow) (s':Shared):Prop :=
 match f with
 | .next=>∃ σ' H',Inv X pins σ' H' s'/\D.nx σ' H'
 | .brk=>∃ σ' H',Inv X pins σ' H' s'/\D.bk σ' H'
 | .cont=>∃ σ' H',Inv X pins σ' H' s'/\D.ct σ' H'
 | .ret u=>∃ v σ' H',Inv X pins σ' H' s'/\RelV v u/\D.rt v H'
noncomputable def PE (X:Cx) (e:Expr) (t:TE):Prop :=
 ∀ (pins:List (Addr × Obj)) (s:Shared) (σ:St) (H:Hp) (Q:VK),Inv X pins σ H s->t σ H Q->wpAny (model X.prog X.w) X.A (eval e X.env) (EP X pins σ Q) X.xe s
noncomputable def PT (X:Cx) (e:Expr) (t:TT):Prop :=
 ∀ (pins:List (Addr × Obj)) (s:Shared) (σ:St) (H:Hp) (Q:Bool->Hp->Prop),Inv X pins σ H s->t σ H Q->wpAny (model X.prog X.w) X.A (isTrue e X.env (eval e X.env)) (TP X pins σ Q) X.xe s
noncomputable def PW (X:Cx) (e:Expr) (t:TT):Prop :=
 ∀ (whole:Sem Value) (pins:List (Addr × Obj)) (s:Shared) (σ:St) (H:Hp) (Q:Bool->Hp->Prop),Inv X pins σ H s->t σ H Q->wpAny (model X.prog X.w) X.A (isTrue e X.env whole) (TP X pins σ Q) X.xe s
theorem PW.pt {X:Cx} {e:Expr} {t:TT} (h:PW X e t):PT X e t:=h _
noncomputable def PA (X:Cx) (es:List Expr) (t:TA):Prop :=
 ∀ (pos:Pos) (pins:List (Addr × Obj)) (s:Shared) (σ:St) (H:Hp) (Q:List V->Hp->Prop),Inv X pins σ H s->t σ H Q->wpAny (model X.prog X.w) X.A (spliced (backTo pos (starEach es X.env))) (AP X pins σ Q) X.xe s
noncomputable def PS (X:Cx) (st:Stmt) (t:TS):Prop :=
 ∀ (pins:List (Addr × Obj)) (s:Shared) (σ:St) (H:Hp) (D:Ends),Inv X pins σ H s->t D σ H->wpAny (model X.prog X.w) X.A (exec st X.env) (SP X pins D) X.xe s
noncomputable def PSs (X:Cx) (st:List Stmt) (t:TS):Prop :=
 ∀ (pins:List (Addr × Obj)) (s:Shared) (σ:St) (H:Hp) (D:Ends),Inv X pins σ H s->t D σ H->wpAny (model X.prog X.w) X.A (execs st X.env) (SP X pins D) X.xe s
theorem thn {α:Type} {t:Sem α} {Q Q':α->Shared->Prop} {M:Model} {A:Around} {E:Value->Shared->Prop} {s:Shared} (h:wpAny M A t Q E s) (hQ:∀ a s,Q a s->Q' a s):wpAny M A t Q' E s:=fk h hQ fun _ _ x=>x
end L2
namespace L2
open PySem PySem.Spec PyProof.Rows
section
variable {X:Cx}
theorem bin {a b:Expr} {ta tb:TE} (ha:PE X a ta) (hb:PE X b tb) {pins:List (Addr × Obj)} {s:Shared} {σ:St} {H:Hp} {R:V->V->Hp->Prop} (I:Inv X pins σ H s) (h:ta σ H fun x H1=>tb σ H1 fun y H2=>R x y H2)
 {α:Type} {Q:α->Shared->Prop} {f:Value->Value->Sem α}
 (hf:∀ v u s2 x y H2,Inv X pins σ H2 s2->RelV x v->RelV y u->R x y H2->wpAny (model X.prog X.w) X.A (f v u) Q X.xe s2) :
 wpAny (model X.prog X.w) X.A (eval a X.env) (fun v s₁=>wpAny (model X.prog X.w) X.A (eval b X.env) (fun u s₂=>wpAny (model X.prog X.w) X.A (f v u) Q X.xe s₂) X.xe s₁) X.xe s:=by
 refine thn (ha pins s σ H _ I h) fun v s1 ⟨x,H1,I1,r1,q1⟩=>?_
 refine thn (hb pins s1 σ H1 _ I1 q1) fun u s2 ⟨y,H2,I2,r2,q2⟩=>?_
 exact hf v u s2 x y H2 I2 r1 r2 q2
noncomputable def Gb (i:Nat):TE:=fun σ H Q=>∃ v,σ[i]? = some (some v)/\Q v H
noncomputable def tC (v:V):TE:=fun _ H Q=>Q v H
theorem je {i:Nat} {x:Str} {pos:Pos} (hN:X.N[i]? = some x) (hv:Vis X.env.scope x) (hd:(x == ("__debug__":Str)) = false:=by decide) (hcd:(x == ("__classdict__":Str)) = false:=by decide):PE X (.Name x pos) (Gb i):=by
 intro pins s σ H Q I h
 obtain ⟨v,e,h⟩:=h
 obtain ⟨m,hn,hl⟩:=I.loc
 obtain ⟨u,r,l⟩:=hl i x v hN e hv
 have fin:EP X pins σ Q u s:=⟨v,H,I,r,h⟩
 rcases l with ⟨hk,hm⟩ | ⟨hk,c,hc,hcell⟩
 . exact IM (wpAny_loadName_local I.ok.kind hk hn hm fin) hd
 . rcases hk with hk | hk
   . exact IM (wpAny_loadName_cell I.ok.kind hk hc hcell fin) hd
   . exact IM (wpAny_loadName_free I.ok.kind hk hc hcell fin hcd) hd
theorem Hh {i j pos}:PE X (.Constant (.int i) j pos) (tC (.int i)):=fun _ _ _ H _ I h=>wpAny_Constant_int ⟨.int i,H,I.tok _,⟨_,rfl⟩,h⟩
theorem JA {b j pos}:PE X (.Constant (.bool b) j pos) (tC (.bl b)):=fun _ _ _ H _ I h=>Constant_bool ⟨.bl b,H,I,rfl,h⟩
theorem Hg {j pos}:PE X (.Constant .none j pos) (tC .non):=fun _ _ _ H _ I h=>Constant_none ⟨.non,H,I,rfl,h⟩
theorem He {x j pos}:PE X (.Constant (.str x) j pos) (tC (.str x)):=fun _ _ _ H _ I h=>Calls.Constant_str ⟨.str x,H,I.tok _,⟨_,rfl⟩,h⟩
noncomputable def Gl (X:Cx) (x:Str):Prop:=X.env.kindOf x = some .globalImplicit
theorem vG {E:Value->Shared->Prop} {pins:List (Addr × Obj)} {s:Shared} {σ:St} {H:Hp} {x:Str} {u:Value} {pos:Pos} {Q:Value->Shared->Prop} (I:Inv X pins σ H s) (hg:Gl X x) (hm:X.mg x = some u) (h:Q u s)
 (hd:(x == ("__debug__":Str)) = false:=by decide):wpAny (model X.prog X.w) X.A (eval (.Name x pos) X.env) Q E s :=
 oe I.ok.kind hg (Calls.loadGlobal_global (by rw [I.ok.glob];exact I.mod.glob.keeps I.bk) hm h) hd
theorem mH {E:Value->Shared->Prop} {pins:List (Addr × Obj)} {s:Shared} {σ:St} {H:Hp} {x:Str} {u:Value} {pos:Pos} {Q:Value->Shared->Prop} (I:Inv X pins σ H s) (hg:Gl X x) (hm:X.mg x = none) (hv:bootBuiltins x = some u) (h:Q u s)
 (hn:x≠"__name__":=by decide) (hd:(x == ("__debug__":Str)) = false:=by decide):wpAny (model X.prog X.w) X.A (eval (.Name x pos) X.env) Q E s:=by
 obtain ⟨mb,h1,h2⟩:=I.mod.blt
 exact oe I.ok.kind hg (Calls.loadGlobal_builtin (by rw [I.ok.glob];exact I.mod.glob.keeps I.bk) hm (by rw [I.ok.blt];exact h1.keeps I.bk) ((h2 x hn).trans hv) h) hd
theorem DA {x:Str} {v:V} {u:Value} {pos:Pos} (hg:Gl X x) (hm:X.mg x = some u) (r:RelV v u) (hd:(x == ("__debug__":Str)) = false:=by decide):PE X (.Name x pos) (tC v) :=
 fun _ _ _ H _ I h=>vG I hg hm ⟨v,H,I,r,h⟩ hd
theorem DC {x:Str} {v:V} {u:Value} {pos:Pos} (hg:Gl X x) (hm:X.mg x = none) (hv:bootBuiltins x = some u) (r:RelV v u) (hn:x≠"__name__":=by decide) (hd:(x == ("__debug__":Str)) = false:=by decide):PE X (.Name x pos) (tC v) :=
 fun _ _ _ H _ I h=>mH I hg hm hv ⟨v,H,I,r,h⟩ hn hd
variable {a b:Expr} {ta tb:TE} {pos:Pos}
variable {tA tB':TT} {rest:List Expr}
noncomputable def KP (t u:TT):TT:=fun σ H Q=>t σ H fun c H1=>if c = true then u σ H1 Q else Q false H1
noncomputable def tOr (t u:TT):TT:=fun σ H Q=>t σ H fun c H1=>if c = true then Q true H1 else u σ H1 Q
noncomputable def KJ (t:TT):TT:=fun σ H Q=>t σ H fun c H1=>Q (!c) H1
theorem Dr (ha:PT X a tA):PW X (.BoolOp .And [a] pos) tA:=by
 intro wh pins s σ H Q I h
 refine isTrue_and (thn (ha pins s σ H Q I h) fun c s1 e=>?_)
 cases c with
 | true=>exact isTrue_and_nil e
 | false=>exact e
theorem GS (ha:PT X a tA):PW X (.BoolOp .Or [a] pos) tA:=by
 intro wh pins s σ H Q I h
 refine isTrue_or (thn (ha pins s σ H Q I h) fun c s1 e=>?_)
 cases c with
 | false=>exact isTrue_or_nil e
 | true=>exact e
theorem GU (ha:PT X a tA) (hb:PW X (.BoolOp .And (b::rest) pos) tB'):PW X (.BoolOp .And (a::b::rest) pos) (KP tA tB'):=by
 intro wh pins s σ H Q I h
 refine isTrue_and (thn (ha pins s σ H _ I h) fun c s1 ⟨H1,I1,q1⟩=>?_)
 cases c with
 | true=>exact hb wh pins s1 σ H1 Q I1 q1
 | false=>exact ⟨H1,I1,q1⟩
theorem Jx (ha:PT X a tA) (hb:PW X (.BoolOp .Or (b::rest) pos) tB'):PW X (.BoolOp .Or (a::b::rest) pos) (tOr tA tB'):=by
 intro wh pins s σ H Q I h
 refine isTrue_or (thn (ha pins s σ H _ I h) fun c s1 ⟨H1,I1,q1⟩=>?_)
 cases c with
 | true=>exact ⟨H1,I1,q1⟩
 | false=>exact hb wh pins s1 σ H1 Q I1 q1
theorem GV (ha:PT X a tA):PT X (.UnaryOp .Not a pos) (KJ tA):=by
 intro pins s σ H Q I h
 exact isTrue_not (ha pins s σ H (fun c H1=>Q (!c) H1) I h)
noncomputable def Jp (ta tb:TE):TE:=fun σ H Q=>ta σ H fun x H1=>∃ c,x = .bl c/\if c = true then tb σ H1 Q else Q (.bl false) H1
noncomputable def KI (ta tb:TE):TE:=fun σ H Q=>ta σ H fun x H1=>∃ c,x = .bl c/\if c = true then Q (.bl true) H1 else tb σ H1 Q
noncomputable def Jk (ta:TE):TE:=fun σ H Q=>ta σ H fun x H1=>∃ c,x = .bl c/\Q (.bl (!c)) H1
theorem Aj {op} {t:TE} (h:PE X a t):PE X (.BoolOp op [a] pos) t:=fun pins s σ H Q I hw=>BoolOp_one (h pins s σ H Q I hw)
theorem Hi (ha:PE X a ta) (hb:PE X (.BoolOp .And (b::rest) pos) tb):PE X (.BoolOp .And (a::b::rest) pos) (Jp ta tb):=by
 intro pins s σ H Q I h
 refine BoolOp_and (thn (ha pins s σ H _ I h) fun v s1 ⟨x,H1,I1,r1,q1⟩=>?_)
 obtain ⟨c,rfl,q1⟩:=q1
 cases r1
 refine dY ?_
 cases c with
 | true=>exact hb pins s1 σ H1 Q I1 q1
 | false=>exact ⟨.bl false,H1,I1,rfl,q1⟩
theorem Jz (ha:PE X a ta) (hb:PE X (.BoolOp .Or (b::rest) pos) tb):PE X (.BoolOp .Or (a::b::rest) pos) (KI ta tb):=by
 intro pins s σ H Q I h
 refine BoolOp_or (thn (ha pins s σ H _ I h) fun v s1 ⟨x,H1,I1,r1,q1⟩=>?_)
 obtain ⟨c,rfl,q1⟩:=q1
 cases r1
 refine dY ?_
 cases c with
 | false=>exact hb pins s1 σ H1 Q I1 q1
 | true=>exact ⟨.bl true,H1,I1,rfl,q1⟩
theorem Hf (ha:PE X a ta):PE X (.UnaryOp .Not a pos) (Jk ta):=by
 intro pins s σ H Q I h
 refine UnaryOp_ (thn (ha pins s σ H _ I h) fun v s1 ⟨x,H1,I1,r1,q1⟩=>?_)
 obtain ⟨c,rfl,q1⟩:=q1
 cases r1
 exact not_of (dY ⟨.bl (!c),H1,I1,rfl,q1⟩)
noncomputable def tIf (t:TT) (ta tb:TE):TE:=fun σ H Q=>t σ H fun c H1=>if c = true then ta σ H1 Q else tb σ H1 Q
theorem Al {c:Expr} (hc:PT X c tA) (ha:PE X a ta) (hb:PE X b tb):PE X (.IfExp c a b pos) (tIf tA ta tb):=by
 intro pins s σ H Q I h
 refine wpAny_IfExp (thn (hc pins s σ H _ I h) fun d s1 ⟨H1,I1,q1⟩=>?_)
 cases d with
 | true=>exact ha pins s1 σ H1 Q I1 q1
 | false=>exact hb pins s1 σ H1 Q I1 q1
end
end L2
namespace L2
open PySem PySem.Spec PyProof.Rows
noncomputable def SqL (K:PySem.W.Frag) (H:Hp) (a:Addr) (xs:List V):Prop :=
 Rd H a (.lst xs) \/
  ∃ (o:Obj) (its:Array Value) (n:Nat),K.lookup a = some o/\o.cls = .type "list"/\o.dict = none/\o.data = .seq its n/\its.size<=sizeLine/\Vals xs its.toList
noncomputable def SqT (K:PySem.W.Frag) (H:Hp) (a:Addr) (xs:List V):Prop :=
 Rd H a (.tup xs) \/
  ∃ (o:Obj) (its:Array Value) (n:Nat),K.lookup a = some o/\o.cls = .type "tuple"/\o.data = .seq its n/\its.size<=sizeLine/\Vals xs its.toList
noncomputable def Lq:Value->Option V
 | .none=>some .non
 | .bool b=>some (.bl b)
 | .int i _=>some (.int i)
 | .str x _=>some (.str x)
 | .bytes b _=>some (.byt b)
 | .float b _=>some (.flt b)
 | .ref a=>some (.ref a)
 | .type n=>some (.ty n)
 | _=>none
theorem RelV.abs {x:V} {u:Value} (r:RelV x u):Lq u = some x:=by
 cases x with
 | non=>cases r;rfl
 | bl _=>cases r;rfl
 | int _=>obtain ⟨t,rfl⟩:=r;rfl
 | str _=>obtain ⟨t,rfl⟩:=r;rfl
 | byt _=>obtain ⟨t,rfl⟩:=r;rfl
 | flt _=>obtain ⟨t,rfl⟩:=r;rfl
 | ref _=>cases r;rfl
 | ty _=>cases r;rfl
theorem RelV.inj {x y:V} {u:Value} (r:RelV x u) (q:RelV y u):x = y:=aX (r.abs.symm.trans q.abs)
theorem Vals.inj:∀ {xs ys:List V} {us:List Value},Vals xs us->Vals ys us->xs = ys
 | _,_,_,.nil,.nil=>rfl
 | _,_,_,.cons r t,.cons r' t'=>by rw [r.inj r',Vals.inj t t']
section
variable {X:Cx} {pins:List (Addr × Obj)} {σ:St} {H:Hp} {s:Shared} {a:Addr} {xs ys:List V}
theorem SqL.of {K:PySem.W.Frag} (h:H a = some (.lst xs)):SqL K H a xs:=.inl (.inl h)
theorem SqT.of {K:PySem.W.Frag} (h:H a = some (.tup xs)):SqT K H a xs:=.inl (.inl h)
theorem Inv.list (I:Inv X pins σ H s) (h:SqL X.K H a xs):∃ its:List Value,Vals xs its/\PlainL s.heap a its.toArray/\xs.length<=sizeLine:=by
 rcases h with h | ⟨o,its,n,hk,hc,hd,hs,hz,r⟩
 . obtain ⟨z,its,n,r,e⟩:=h.ok I.hok
   exact ⟨its,r,⟨_,n,e,rfl,rfl,rfl⟩,z⟩
 . refine ⟨its.toList,r,⟨o,n,I.kIn a o hk,hc,hd,by simpa using hs⟩,?_⟩
   have e:=r.length
   simp only [ba] at e
   omega
theorem Inv.tuple (I:Inv X pins σ H s) (h:SqT X.K H a xs):∃ its:List Value,Vals xs its/\IsTup s.heap a its.toArray/\xs.length<=sizeLine:=by
 rcases h with h | ⟨o,its,n,hk,hc,hs,hz,r⟩
 . obtain ⟨z,its,r,p⟩:=h.ok I.hok
   exact ⟨its,r,p,z⟩
 . refine ⟨its.toList,r,⟨o,I.kIn a o hk,hc,n,by simpa using hs⟩,?_⟩
   have e:=r.length
   simp only [ba] at e
   omega
theorem Inv.list_inj (I:Inv X pins σ H s) (h:SqL X.K H a xs) (h':SqL X.K H a ys):xs = ys:=by
 obtain ⟨its,r,⟨o,n,e,_,_,d⟩,_⟩:=I.list h
 obtain ⟨its',r',⟨o',n',e',_,_,d'⟩,_⟩:=I.list h'
 rw [e] at e';cases e'
 rw [d] at d'
 injection d' with d1 _
 have:its = its':=by simpa using congrArg Array.toList d1
 subst this
 exact r.inj r'
theorem Inv.tuple_inj (I:Inv X pins σ H s) (h:SqT X.K H a xs) (h':SqT X.K H a ys):xs = ys:=by
 obtain ⟨its,r,⟨o,e,_,n,d⟩,_⟩:=I.tuple h
 obtain ⟨its',r',⟨o',e',_,n',d'⟩,_⟩:=I.tuple h'
 rw [e] at e';cases e'
 rw [d] at d'
 injection d' with d1 _
 have:its = its':=by simpa using congrArg Array.toList d1
 subst this
 exact r.inj r'
end
abbrev Cx.wish (X:Cx) (E:Value->Shared->Prop):Cx:={ X with xe:=E }
abbrev Cx.nox (X:Cx):Cx:=X.wish fun _ _=>False
theorem Cx.Ok.wish {X:Cx} (ok:X.Ok) (E:Value->Shared->Prop):(X.wish E).Ok :=
 ⟨ok.mod,ok.kind,ok.glob,ok.blt,ok.above,ok.inj,ok.has,ok.cab,ok.hd,ok.frames,ok.stk,ok.exf,ok.bs,ok.bsz,ok.noex,ok.exfs,ok.funs,ok.frf⟩
theorem Cx.Ok.unwish {X:Cx} {E:Value->Shared->Prop} (ok:(X.wish E).Ok):X.Ok :=
 ⟨ok.mod,ok.kind,ok.glob,ok.blt,ok.above,ok.inj,ok.has,ok.cab,ok.hd,ok.frames,ok.stk,ok.exf,ok.bs,ok.bsz,ok.noex,ok.exfs,ok.funs,ok.frf⟩
section
variable {X:Cx} {pins:List (Addr × Obj)} {σ:St} {H:Hp} {s:Shared} {E:Value->Shared->Prop}
theorem Inv.wish (I:Inv X pins σ H s) (E:Value->Shared->Prop):Inv (X.wish E) pins σ H s:=⟨I.ok.wish E,I.os,I.bare,I.base,I.loc,I.cell,I.free,I.freeC,I.pin,I.hok,I.len⟩
theorem Inv.unwish (I:Inv (X.wish E) pins σ H s):Inv X pins σ H s:=⟨I.ok.unwish,I.os,I.bare,I.base,I.loc,I.cell,I.free,I.freeC,I.pin,I.hok,I.len⟩
theorem SP.unwish {D:Ends} {f:Flow} {s':Shared} (h:SP (X.wish E) pins D f s'):SP X pins D f s':=by
 cases f with
 | next=>obtain ⟨σ',H',I,q⟩:=h;exact ⟨σ',H',I.unwish,q⟩
 | brk=>obtain ⟨σ',H',I,q⟩:=h;exact ⟨σ',H',I.unwish,q⟩
 | cont=>obtain ⟨σ',H',I,q⟩:=h;exact ⟨σ',H',I.unwish,q⟩
 | ret u=>obtain ⟨v,σ',H',I,r,q⟩:=h;exact ⟨v,σ',H',I.unwish,r,q⟩
theorem PE.nox {e:Expr} {t:TE} (h:PE X.nox e t):PE X e t:=fun pins s σ H Q I hw =>
 fk (h pins s σ H Q (I.wish _) hw) (fun _ _ ⟨v,H',I',r,q⟩=>⟨v,H',I'.unwish,r,q⟩) fun _ _ z=>False.elim z
theorem PT.nox {e:Expr} {t:TT} (h:PT X.nox e t):PT X e t:=fun pins s σ H Q I hw =>
 fk (h pins s σ H Q (I.wish _) hw) (fun _ _ ⟨H',I',q⟩=>⟨H',I'.unwish,q⟩) fun _ _ z=>False.elim z
theorem PSs.nox {st:List Stmt} {t:TS} (h:PSs X.nox st t):PSs X st t:=fun pins s σ H D I hw =>
 fk (h pins s σ H D (I.wish _) hw) (fun _ _ q=>q.unwish) fun _ _ z=>False.elim z
end
section
variable {X:Cx} {st:Stmt} {rest:List Stmt} {t u:TS} {e:Expr} {te:TE} {pos:Pos}
noncomputable def EB:TS:=fun D σ H=>D.nx σ H
noncomputable def KD (t u:TS):TS:=fun D σ H=>t { D with nx:=u D } σ H
theorem vg:PSs X [] EB:=fun _ _ σ H _ I h=>wpAny_execs_nil ⟨σ,H,I,h⟩
theorem jA (h1:PS X st t) (h2:PSs X rest u):PSs X (st::rest) (KD t u):=by
 intro pins s σ H D I h
 refine wpAny_execs_cons (thn (h1 pins s σ H { D with nx:=u D } I h) fun f s1 q=>?_)
 cases f with
 | next =>
   obtain ⟨σ',H',I',q⟩:=q
   exact h2 pins s1 σ' H' D I' q
 | ret v=>exact q
 | brk=>exact q
 | cont=>exact q
noncomputable def Ge:TS:=fun D σ H=>D.bk σ H
noncomputable def Jn:TS:=fun D σ H=>D.ct σ H
theorem Dx:PS X (.Pass pos) EB:=fun _ _ σ H _ I h=>wpAny_Pass ⟨σ,H,I,h⟩
theorem Ag:PS X (.Break pos) Ge:=fun _ _ σ H _ I h=>wpAny_Break ⟨σ,H,I,h⟩
theorem rS:PS X (.Continue pos) Jn:=fun _ _ σ H _ I h=>wpAny_Continue ⟨σ,H,I,h⟩
theorem Inv.quiet {pins:List (Addr × Obj)} {σ:St} {H:Hp} {s:Shared} (I:Inv X pins σ H s):interactive X.env = false:=by simp [interactive,I.ok.kind]
noncomputable def Jm (te:TE):TS:=fun D σ H=>te σ H fun _ H1=>D.nx σ H1
theorem pX (he:PE X e te) (hs:swapsWith e none pos.line X.env = pure false:=by rfl):PS X (.Expr e pos) (Jm te):=by
 intro pins s σ H D I h
 exact wpAny_Expr_any (thn (he pins s σ H _ I h) fun v s1 ⟨x,H1,I1,r1,q1⟩=>⟨σ,H1,I1,q1⟩) I.quiet hs
noncomputable def KG (te:TE):TS:=fun D σ H=>te σ H D.rt
theorem GW (he:PE X e te):PS X (.Return (some e) pos) (KG te):=by
 intro pins s σ H D I h
 exact wpAny_Return_some (thn (he pins s σ H _ I h) fun v s1 ⟨x,H1,I1,r1,q1⟩=>⟨x,σ,H1,I1,r1,q1⟩)
noncomputable def Ji:TS:=fun D _ H=>D.rt .non H
theorem Dw:PS X (.Return none pos) Ji:=fun _ _ σ H _ I h=>wpAny_Return_none ⟨.non,σ,H,I,rfl,h⟩
noncomputable def KN (c:TT) (t u:TS):TS:=fun D σ H=>c σ H fun b H1=>if b = true then t D σ H1 else u D σ H1
theorem ED {c:Expr} {a b:List Stmt} {tc:TT} (hc:PT X c tc) (ha:PSs X a t) (hb:PSs X b u):PS X (.If c a b pos) (KN tc t u):=by
 intro pins s σ H D I h
 refine wpAny_If (thn (hc pins s σ H _ I h) fun d s1 ⟨H1,I1,q1⟩=>?_)
 cases d with
 | true=>exact ha pins s1 σ H1 D I1 q1
 | false=>exact hb pins s1 σ H1 D I1 q1
end
abbrev TG:=V->St->Hp->(St->Hp->Prop)->Prop
abbrev TGs:=List V->St->Hp->(St->Hp->Prop)->Prop
noncomputable def PG (X:Cx) (target:Expr) (t:TG):Prop :=
 ∀ (pins:List (Addr × Obj)) (s:Shared) (σ:St) (H:Hp) (v:V) (u:Value) (Q:St->Hp->Prop),Inv X pins σ H s->RelV v u->t v σ H Q ->
  wpAny (model X.prog X.w) X.A (assign target X.env u) (fun _ s'=>∃ σ' H',Inv X pins σ' H' s'/\Q σ' H') X.xe s
noncomputable def PGs (X:Cx) (ts:List Expr) (t:TGs):Prop :=
 ∀ (pins:List (Addr × Obj)) (s:Shared) (σ:St) (H:Hp) (vs:List V) (us:List Value) (Q:St->Hp->Prop),Inv X pins σ H s->Vals vs us->t vs σ H Q ->
  wpAny (model X.prog X.w) X.A (assignInOrder ((assignEach ts X.env).map (·.2)) us) (fun _ s'=>∃ σ' H',Inv X pins σ' H' s'/\Q σ' H') X.xe s
section
variable {X:Cx} {pos:Pos}
noncomputable def sF (i:Nat):TG:=fun v σ H Q=>Q (σ.set i (some v)) H
theorem lx {i:Nat} {x:Str} (hN:X.N.Nodup) (hi:X.N[i]? = some x) (hx:Loc X.env.scope x) (hf:X.fn x = true\/X.env.scope.names.lookup x = some .local:=by first | exact .inl rfl | exact .inr rfl | assumption):PG X (.Name x pos) (sF i):=by
 intro pins s σ H v u Q I r h
 exact wpAny_assign_Name (ju I hN hi hx r (fun s' I'=>⟨_,H,I',h⟩) hf)
noncomputable def Ia:TGs:=fun vs σ H Q=>vs = []/\Q σ H
noncomputable def vR (t:TG) (u:TGs):TGs:=fun vs σ H Q=>∃ v r,vs = v::r/\t v σ H fun σ' H'=>u r σ' H' Q
theorem vi:PGs X [] Ia:=by
 intro pins s σ H vs us Q I r h
 obtain ⟨e,h⟩:=h
 subst e
 cases r
 exact IV ⟨σ,H,I,h⟩
theorem mm {e:Expr} {es:List Expr} {t:TG} {u:TGs} (h1:PG X e t) (h2:PGs X es u)
 (hs:(assignEach (e::es) X.env).map (·.2) = assign e X.env::(assignEach es X.env).map (·.2):=by rfl):PGs X (e::es) (vR t u):=by
 intro pins s σ H vs us Q I r h
 obtain ⟨v,vr,e1,h⟩:=h
 subst e1
 cases r with
 | cons r rr =>
   rw [hs]
   refine ny (thn (h1 pins s σ H _ _ _ I r h) fun _ s1 ⟨σ1,H1,I1,q1⟩=>?_)
   exact h2 pins s1 σ1 H1 _ _ Q I1 rr q1
noncomputable def Lj (K:PySem.W.Frag) (n:Nat) (t:TGs):TG:=fun v σ H Q=>∃ a xs,v = .ref a/\SqT K H a xs/\xs.length = n/\t xs σ H Q
theorem Hb {es:List Expr} {k:Nat} {t:TGs} {n:Nat} (hc:X.calm = true) (h:PGs X es t)
 (hn:(assignEach es X.env).length = n:=by rfl) (hst:(assignEach es X.env).findIdx? (·.1) = none:=by rfl):PG X (.Tuple es k pos) (Lj X.K n t):=by
 intro pins s σ H v u Q I r hw
 obtain ⟨a,xs,e1,hq,hl,hw⟩:=hw
 subst e1
 cases r
 obtain ⟨its,rv,ht,hz⟩:=I.tuple hq
 refine assign_Tuple_tuple (I.ok.hd hc) ht (by simp [hn,<- hl,rv.length]) hst fun h' hx=>?_
 have I1:Inv X pins σ H { s with heap:=h' }:=I.kept (t':=s.toks) fun b o e=>hx b o (aH (aB e)) e
 exact h pins _ σ H xs _ Q I1 (by simpa using rv) hw
noncomputable def Gf (te:TE) (g:TG):TS:=fun D σ H=>te σ H fun x H1=>g x σ H1 D.nx
theorem GY {tg e:Expr} {te:TE} {g:TG} (he:PE X e te) (hg:PG X tg g) (hs:swapsWithSole [tg] e pos.line X.env = pure false:=by rfl) (hw:swappedStores [tg] e X.env = pure none:=by rfl)
 (h1:(assignEach [tg] X.env).map (·.2) = [assign tg X.env]:=by rfl):PS X (.Assign [tg] e pos) (Gf te g):=by
 intro pins s σ H D I h
 refine wpAny_Assign_stores (thn (he pins s σ H _ I h) fun v s1 ⟨x,H1,I1,r1,q1⟩=>?_) hs hw
 rw [h1]
 exact thn (hg pins s1 σ H1 x v _ I1 r1 q1) fun _ s2 q=>q
theorem pW {i:Nat} {x:Str} {e:Expr} {te:TE} {pos':Pos} (hN:X.N.Nodup) (hi:X.N[i]? = some x) (hx:Loc X.env.scope x) (he:PE X e te) (hs:swapsWith e (some (.Name x pos')) pos.line X.env = pure false:=by rfl) (hf:X.fn x = true\/X.env.scope.names.lookup x = some .local:=by first | exact .inl rfl | exact .inr rfl | assumption) :
 PS X (.Assign [.Name x pos'] e pos) (Gf te (sF i)):=by
 intro pins s σ H D I h
 refine wpAny_Assign_Name (thn (he pins s σ H _ I h) fun v s1 ⟨y,H1,I1,r1,q1⟩=>?_) hs
 exact ju I1 hN hi hx r1 (fun s2 I2=>⟨_,H1,I2,q1⟩) hf
noncomputable def KH (i j:Nat) (ta:TA):TS:=fun D σ H=>ta σ H fun vs H1=>∃ v w,vs = [v,w]/\D.nx ((σ.set i (some v)).set j (some w)) H1
theorem GX {i j:Nat} {x y:Str} {a b:Expr} {ta:TA} {px py pt:Pos} {kt k2 pt2} (hc:X.calm = true) (hN:X.N.Nodup) (hi:X.N[i]? = some x) (hj:X.N[j]? = some y) (hij:i≠j)
 (hx:X.env.scope.names.lookup x = some .local) (hy:X.env.scope.names.lookup y = some .local) (ha:PA X [a,b] ta)
 (hw:swappedStores [.Tuple [.Name x px,.Name y py] kt pt] (.Tuple [a,b] k2 pt2) X.env = pure (some [x,y]))
 (hs:swapsWithSole [.Tuple [.Name x px,.Name y py] kt pt] (.Tuple [a,b] k2 pt2) pos.line X.env = pure false:=by rfl) :
 PS X (.Assign [.Tuple [.Name x px,.Name y py] kt pt] (.Tuple [a,b] k2 pt2) pos) (KH i j ta):=by
 intro pins s σ H D I h
 rw [exec_Assign_arm]
 refine ag (yh ?_)
 rw [hs]
 refine ag (ar ?_)
 rw [if_neg (by decide)]
 refine ag (Tuple_ (thn (ha _ pins s σ H _ I h) fun us s1 ⟨vs,H1,I1,r1,q1⟩=>?_))
 obtain ⟨v,w,e1,q1⟩:=q1
 subst e1
 obtain ⟨u1,u2,rfl,rv,rw'⟩:∃ u1 u2,us = [u1,u2]/\RelV v u1/\RelV w u2:=by
  cases r1 with
  | cons p q =>
    cases q with
    | cons p' q' =>
      cases q'
      exact ⟨_,_,rfl,p,p'⟩
 refine bw ?_ (by show 2<=sizeLine;decide)
 have I2:Inv X pins σ H1 { s1 with heap:=s1.heap.push { cls:=.type "tuple",data:=.seq [u1,u2].toArray } }:=I1.kept (t':=s1.toks) fun b o e=>ah _ e
 rw [hw]
 refine ag (ar ?_)
 show wpAny (model X.prog X.w) X.A (do rule "assign.swapped-stores";let items <- unpackItems (.ref s1.heap.objs.size) 2 none;assignInOrder [fun v=>bindName X.env y v,fun v=>bindName X.env x v] items.reverse;pure Flow.next) _ _ _
 refine ag (IL (ag (unpackItems_tuple (items := #[u1,u2]) (I.ok.hd hc) (qK s1.heap _) fun h' hx'=>?_)))
 have I3:=I2.kept (h':=h') (t':=s1.toks) fun b o e=>hx' b o (aH (aB e)) e
 show wpAny _ _ (assignInOrder [fun v=>bindName X.env y v,fun v=>bindName X.env x v] [u2,u1] >>= fun _=>pure Flow.next) _ _ _
 refine ag (ny (wpAny_bindName (ju I3 hN hj (.inl hy) rw' (fun s2 I4=>?_) (.inr hy))))
 refine ny (wpAny_bindName (ju I4 hN hi (.inl hx) rv (fun s3 I5=>IV (ar ?_)) (.inr hx)))
 rw [List.set_comm _ _ (Ne.symm hij)] at I5
 exact ⟨_,H1,I5,q1⟩
end
section
variable {X:Cx} {pos:Pos}
end
structure It where
 go:Nat->Hp->Prop
 yld:Nat->Hp->V->Hp->Prop
 stop:Nat->Hp->Prop
noncomputable def kx (X:Cx) (pins:List (Addr × Obj)) (H:Hp) (b:Addr):Prop :=
 H b = none/\b≠X.env.locals/\b∉X.fs/\(b∈X.ex\/X.s₀.heap.objs.size<=b)/\(∀ x c,X.env.cells.lookup x = some c->c≠b)/\∀ p∈X.pn++pins,p.1≠b
theorem Inv.fpOk {X:Cx} {pins:List (Addr × Obj)} {σ:St} {H H':Hp} {s:Shared} {b:Addr} (I:Inv X pins σ H s) (hb:s.heap.objs.size<=b) (hn:H' b = none):kx X pins H' b:=by
 refine ⟨hn,uH (aP I.lt hb),I.nofs hb,.inr (bK I.sz hb),fun x c e z=>?_,fun p hp z=>?_⟩
 . obtain ⟨v,q⟩:=I.cell x c e
   exact absurd (aP q.lt (by rw [z];exact hb)) (cI _)
 . exact absurd (aP (aB (I.pin p hp).1) (by rw [z];exact hb)) (cI _)
structure Turn (P:Program) (w:World) (K:PySem.W.Frag) (tg:Expr) (J:It) (fp:List Addr) (it:Addr) (tn:Nat->Heap->Prop):Prop where
 mem:it∈fp
 obj:∀ i h,tn i h->∀ b∈fp,∃ o,h.get? b = some o/\∀ v,o.data≠.cell v
 keep:∀ i h h',tn i h->(∀ b∈fp,∀ o,h.get? b = some o->h'.get? b = some o)->tn i h'
 item:∀ (X:Cx),X.prog = P->X.w = w->X.K = K->X.calm = true->∀ (i:Nat) (pins:List (Addr × Obj)) (s:Shared) (σ:St) (H:Hp) (E:Value->Shared->Prop),Inv X pins σ H s->(∀ b∈fp,kx X pins H b)->tn i s.heap->J.go i H ->
  wpAny (model P w) X.A (pyNext (.ref it)) (fun r s1=>∃ u,r = some u /\
   wpAny (model P w) X.A (letOwnedTupleGo tg (.ref it) u) (fun _ s2=>∃ x H',Inv X pins σ H' s2/\RelV x u/\J.yld i H x H'/\tn (i+1) s2.heap/\∀ b∈fp,H' b = none) E s1) E s
 done:∀ (X:Cx),X.prog = P->X.w = w->X.K = K->X.calm = true->∀ (i:Nat) (pins:List (Addr × Obj)) (s:Shared) (σ:St) (H:Hp) (E:Value->Shared->Prop),Inv X pins σ H s->(∀ b∈fp,kx X pins H b)->tn i s.heap->J.stop i H ->
  wpAny (model P w) X.A (pyNext (.ref it)) (fun r s1=>r = none/\Inv X pins σ H s1) E s
 self:∀ (A:Around) (i:Nat) (s:Shared) (Q:Value->Shared->Prop) (E:Value->Shared->Prop),tn i s.heap->Q (.ref it) s->wpAny (model P w) A (pyIter (.ref it)) Q E s
abbrev TI:=St->Hp->(It->Hp->Prop)->Prop
noncomputable def PIE (X:Cx) (pins:List (Addr × Obj)) (σ:St) (tg:Expr) (R:It->Hp->Prop) (itv:Value) (s2:Shared):Prop :=
 ∃ (it:Addr) (fp:List Addr) (tn:Nat->Heap->Prop) (J:It) (H':Hp),itv = .ref it/\Inv X pins σ H' s2/\Turn X.prog X.w X.K tg J fp it tn/\tn 0 s2.heap/\(∀ b∈fp,kx X pins H' b)/\R J H'
noncomputable def PI (X:Cx) (tg iter:Expr) (wi:TI):Prop :=
 ∀ (pins:List (Addr × Obj)) (s:Shared) (σ:St) (H:Hp) (R:It->Hp->Prop),Inv X pins σ H s->wi σ H R ->
  wpAny (model X.prog X.w) X.A (eval iter X.env) (fun v s1=>wpAny (model X.prog X.w) X.A (pyIter v) (PIE X pins σ tg R) X.xe s1) X.xe s
theorem vQ {M:Model} {A:Around} {E:Value->Shared->Prop} {s:Shared} {tg:Expr} {it:Addr} {u:Value} {o:Obj} {n:String} {vs:Array Value} {Q:Unit->Shared->Prop} (ho:s.heap.get? it = some o) (hc:o.cls = .type n) (hd:o.data = .fields vs)
 (hn:["enumerate","zip","dict_itemiterator","dict_reverseitemiterator","odict_iterator","itertools.zip_longest","itertools.pairwise"].contains n = false) (hQ:Q () s):wpAny M A (letOwnedTupleGo tg (.ref it) u) Q E s:=by
 unfold letOwnedTupleGo
 cases tg<;>first
  | exact ar hQ
  | (cases u<;>first
      | exact ar hQ
      | (refine ag (wpAny_load ho ?_)
         rw [hc,hd]
         show wpAny M A (if (["enumerate","zip","dict_itemiterator","dict_reverseitemiterator","odict_iterator","itertools.zip_longest","itertools.pairwise"].contains n && vs[0]? == some (rawInt _)) = true then _ else _) Q E s
         rw [if_neg (by intro h;rw [hn,Bool.false_and] at h;cases h)]
         exact ar hQ))
noncomputable def Itl (K:PySem.W.Frag) (a:Addr):It :=
 ⟨fun i H=>∃ xs x,SqL K H a xs/\xs[i]? = some x,fun i H x H'=>H' = H/\∀ xs,SqL K H a xs->xs[i]? = some x,fun i H=>∃ xs,SqL K H a xs/\xs.length<=i⟩
noncomputable def Itt (K:PySem.W.Frag) (a:Addr):It :=
 ⟨fun i H=>∃ xs x,SqT K H a xs/\xs[i]? = some x,fun i H x H'=>H' = H/\∀ xs,SqT K H a xs->xs[i]? = some x,fun i H=>∃ xs,SqT K H a xs/\xs.length<=i⟩
noncomputable def Itr (lo:Int) (n:Nat):It:=⟨fun i _=>i < n,fun i H x H'=>H' = H/\x = .int (lo+i),fun i _=>n<=i⟩
theorem xf {P:Program} {w:World} {K:PySem.W.Frag} {tg:Expr} (a it:Addr):Turn P w K tg (Itl K a) [it] it (fun i h=>h.IsListIter it a i) where
 mem:=by simp
 obj:=fun i h st b hb=>by
  have e:b = it:=by simpa using hb
  subst e
  obtain ⟨o,e,c,d⟩:=st
  exact ⟨o,e,fun v z=>by rw [d] at z;cases z⟩
 keep:=fun i h h' st k=>st.at fun o e=>k it (by simp) o e
 item:=by
  intro X hP hw hK hc i pins s σ H E I hf st hg
  subst hP hw hK
  obtain ⟨xs,x,hq,hx⟩:=hg
  obtain ⟨its,rv,p,hz⟩:=I.list hq
  obtain ⟨u,hu,ru⟩:=rv.get hx
  obtain ⟨f0,f1,f2,f3,f4,f5⟩:=hf it (by simp)
  refine wpAny_pyNext_list_item st p.isList (x:=u) (by simpa using hu) fun h' st' sb=>?_
  have I1:Inv X pins σ H { s with heap:=h' }:=I.turned (t':=s.toks) (fun b o hb e=>(sb.2 b hb).trans e) f0 f1 f3 f4 f5
  obtain ⟨o,e,c,d⟩:=id st'
  exact ⟨u,rfl,vQ (s:={ s with heap:=h' }) e c d (by decide) ⟨x,H,I1,ru,⟨rfl,fun ys hy=>by rw [I.list_inj hy hq];exact hx⟩,st',fun b hb=>(hf b hb).1⟩⟩
 done:=by
  intro X hP hw hK hc i pins s σ H E I hf st hg
  subst hP hw hK
  obtain ⟨xs,hq,hx⟩:=hg
  obtain ⟨its,rv,p,hz⟩:=I.list hq
  obtain ⟨f0,f1,f2,f3,f4,f5⟩:=hf it (by simp)
  have hl:=rv.length
  exact wpAny_pyNext_list_end (I.ok.hd hc) st p.isList (by simp;omega) fun h' eb=>⟨rfl,I.turned (t':=s.toks) (fun b o hb e=>eb b o hb e) f0 f1 f3 f4 f5⟩
 self:=fun _ _ _ _ _ st h=>wpAny_pyIter_listiter st h
theorem tR {P:Program} {w:World} {K:PySem.W.Frag} {tg:Expr} (a it:Addr):Turn P w K tg (Itt K a) [it] it (fun i h=>h.IsTupleIter it a i) where
 mem:=by simp
 obj:=fun i h st b hb=>by
  have e:b = it:=by simpa using hb
  subst e
  obtain ⟨o,e,c,d⟩:=st
  exact ⟨o,e,fun v z=>by rw [d] at z;cases z⟩
 keep:=fun i h h' st k=>st.at fun o e=>k it (by simp) o e
 item:=by
  intro X hP hw hK hc i pins s σ H E I hf st hg
  subst hP hw hK
  obtain ⟨xs,x,hq,hx⟩:=hg
  obtain ⟨its,rv,p,hz⟩:=I.tuple hq
  obtain ⟨u,hu,ru⟩:=rv.get hx
  obtain ⟨f0,f1,f2,f3,f4,f5⟩:=hf it (by simp)
  refine wpAny_pyNext_tuple_item st (show s.heap.IsTuple a its.toArray from p) (x:=u) (by simpa using hu) fun h' st' sb=>?_
  have I1:Inv X pins σ H { s with heap:=h' }:=I.turned (t':=s.toks) (fun b o hb e=>(sb.2 b hb).trans e) f0 f1 f3 f4 f5
  obtain ⟨o,e,c,d⟩:=id st'
  exact ⟨u,rfl,vQ (s:={ s with heap:=h' }) e c d (by decide) ⟨x,H,I1,ru,⟨rfl,fun ys hy=>by rw [I.tuple_inj hy hq];exact hx⟩,st',fun b hb=>(hf b hb).1⟩⟩
 done:=by
  intro X hP hw hK hc i pins s σ H E I hf st hg
  subst hP hw hK
  obtain ⟨xs,hq,hx⟩:=hg
  obtain ⟨its,rv,p,hz⟩:=I.tuple hq
  obtain ⟨f0,f1,f2,f3,f4,f5⟩:=hf it (by simp)
  have hl:=rv.length
  exact wpAny_pyNext_tuple_end (I.ok.hd hc) st (show s.heap.IsTuple a its.toArray from p) (by simp;omega) fun h' eb=>⟨rfl,I.turned (t':=s.toks) (fun b o hb e=>eb b o hb e) f0 f1 f3 f4 f5⟩
 self:=fun _ _ _ _ _ st h=>wpAny_pyIter_tupleiter st h
theorem tU {P:Program} {w:World} {K:PySem.W.Frag} {tg:Expr} (it:Addr) (lo:Int) (n:Nat):Turn P w K tg (Itr lo n) [it] it (fun i h=>IsRangeIter h it (lo+(i:Nat) * 1) ((n:Int) - (i:Nat)) 1) where
 mem:=by simp
 obj:=fun i h st b hb=>by
  have e:b = it:=by simpa using hb
  subst e
  exact ⟨_,st,fun v z=>by
   have z':Data.fields _ = Data.cell v:=z
   cases z'⟩
 keep:=fun i h h' st k=>k it (by simp) _ st
 item:=by
  intro X hP hw hK hc i pins s σ H E I hf st hg
  subst hP hw hK
  obtain ⟨f0,f1,f2,f3,f4,f5⟩:=hf it (by simp)
  have W:=Walks.range (prog:=X.prog) (w:=X.w) (I.ok.hd hc) it lo 1 n
  refine W.item i s _ _ hg st fun v h' tk hv st' kk=>?_
  obtain ⟨t,rfl⟩:=hv
  have I1:Inv X pins σ H { s with heap:=h',toks:=tk }:=I.turned (fun b o hb e=>kk b o (by simpa using hb) e) f0 f1 f3 f4 f5
  refine ⟨_,rfl,vQ (s:={ s with heap:=h',toks:=tk }) (n:="range_iterator") st' rfl rfl (by decide) ⟨.int (lo+i),H,I1,⟨t,?_⟩,⟨rfl,rfl⟩,st',fun b hb=>(hf b hb).1⟩⟩
  rw [Int.mul_one]
 done:=by
  intro X hP hw hK hc i pins s σ H E I hf st hg
  subst hP hw hK
  obtain ⟨f0,f1,f2,f3,f4,f5⟩:=hf it (by simp)
  exact wpAny_pyNext_range_end (I.ok.hd hc) st (by have:n<=i:=hg;omega) fun h' eb=>⟨rfl,I.turned (t':=s.toks) (fun b o hb e=>eb b o hb e) f0 f1 f3 f4 f5⟩
 self:=fun _ _ _ _ _ st h=>wpAny_pyIter_rangeiter st h
end L2
namespace L2
open PySem PySem.Spec PyProof.Rows
section
variable {X:Cx} {tg:Expr}
theorem rM {pins:List (Addr × Obj)} {σ:St} {H:Hp} {s:Shared} {R:It->Hp->Prop} {E:Value->Shared->Prop} {lo hi:Int} {t u v:Tok} {tk:Nat} (I:Inv X pins σ H s) (h1:-(2 ^ 62)<=lo) (h2:lo < 2 ^ 62) (h3:-(2 ^ 62)<=hi) (h4:hi < 2 ^ 62)
 (q:R (Itr lo (hi - lo).toNat) H):wpAny (model X.prog X.w) X.A (pyIter (.ref s.heap.objs.size)) (PIE X pins σ tg R) E { s with heap:=s.heap.push { cls:=.type "range",data:=.fields #[.int lo t,.int hi u,.int 1 v] },toks:=tk }:=by
 refine wpAny_pyIter_range (IsRange.new ..) (small_one h1 h2 h3 h4) ?_
 have I1:Inv X pins σ H { s with heap:=s.heap.push { cls:=.type "range",data:=.fields #[.int lo t,.int hi u,.int 1 v] },toks:=tk }:=I.kept fun b o e=>ah _ e
 refine ⟨(s.heap.push { cls:=.type "range",data:=.fields #[.int lo t,.int hi u,.int 1 v] }).objs.size,[(s.heap.push { cls:=.type "range",data:=.fields #[.int lo t,.int hi u,.int 1 v] }).objs.size],_,_,H,rfl,
  I1.kept (t':=tk) fun b o e=>ah _ e,tU _ lo (hi - lo).toNat,?_,fun b hb=>?_,q⟩
 . have e1:lo+((0:Nat):Int) * 1 = lo:=by simp
   have e2:(((hi - lo).toNat:Nat):Int) - ((0:Nat):Int) = Builtin.Range.rangeSize lo hi 1:=by rw [rangeSize_one];split<;>omega
   show IsRangeIter _ _ (lo+((0:Nat):Int) * 1) ((((hi - lo).toNat:Nat):Int) - ((0:Nat):Int)) 1
   rw [e1,e2]
   exact aD _ rfl
 . have e:b = (s.heap.push { cls:=.type "range",data:=.fields #[.int lo t,.int hi u,.int 1 v] }).objs.size:=by simpa using hb
   subst e
   exact I1.fpOk (ay _) (I1.hok.fresh (ay _))
noncomputable def Ka (ta:TA):TI:=fun σ H R=>ta σ H fun vs H1=>∃ j:Int,vs = [.int j]/\-(2 ^ 62)<=j/\j < 2 ^ 62/\R (Itr 0 j.toNat) H1
noncomputable def JZ (ta:TA):TI:=fun σ H R=>ta σ H fun vs H1=>∃ i j:Int,vs = [.int i,.int j]/\(-(2 ^ 62)<=i/\i < 2 ^ 62/\-(2 ^ 62)<=j/\j < 2 ^ 62)/\R (Itr i (j - i).toNat) H1
theorem xC {a:Expr} {ta:TA} {p pos:Pos} (hg:Gl X "range") (hm:X.mg "range" = none) (ha:PA X [a] ta) (hs:starEach [a] X.env = [(false,eval a X.env)]:=by rfl):PI X tg (.Call (.Name "range" p) [a] [] pos) (Ka ta):=by
 intro pins s σ H R I h
 refine Call_ (mH I hg hm boot_range (fq (thn (ha pos pins s σ H _ I h) fun us s1 ⟨vs,H1,I1,r1,q1⟩=>?_) hs rfl))
 obtain ⟨j,e,q1,q2,q⟩:=q1
 subst e
 cases r1 with
 | cons r rr =>
   cases rr
   obtain ⟨t,rfl⟩:=r
   exact call_range_1 (rM I1 (by omega) (by omega) q1 q2 (by simpa using q))
theorem xB {a b:Expr} {ta:TA} {p pos:Pos} (hg:Gl X "range") (hm:X.mg "range" = none) (ha:PA X [a,b] ta) (hs:starEach [a,b] X.env = [(false,eval a X.env),(false,eval b X.env)]:=by rfl) (hs2:starEach [b] X.env = [(false,eval b X.env)]:=by rfl) :
 PI X tg (.Call (.Name "range" p) [a,b] [] pos) (JZ ta):=by
 intro pins s σ H R I h
 refine Call_ (mH I hg hm boot_range (fq (thn (ha pos pins s σ H _ I h) fun us s1 ⟨vs,H1,I1,r1,q1⟩=>?_) (by rw [hs,hs2]) (by rw [hs2];rfl)))
 obtain ⟨i,j,e,⟨q1,q2,q3,q4⟩,q⟩:=q1
 subst e
 cases r1 with
 | cons r rr =>
   cases rr with
   | cons r' rr =>
     cases rr
     obtain ⟨t,rfl⟩:=r
     obtain ⟨t',rfl⟩:=r'
     exact call_range_2 (rM I1 q1 q2 q3 q4 q)
noncomputable def KO (wi:TI) (g:TG) (tb:TS):TS:=fun D σ H=>wi σ H fun J H1=>∃ W:Nat->Nat->St->Hp->Prop,(∃ m,W 0 m σ H1)/\∀ i m σ H,W i m σ H ->
 (J.stop i H/\D.nx σ H)\/(J.go i H/\∃ N:St->Hp->Prop,(∀ σ' H',N σ' H'->∃ m',m' < m/\W (i+1) m' σ' H')/\∀ x H',J.yld i H x H'->g x σ H' fun σ2 H2=>tb { D with nx:=N,ct:=N,bk:=D.nx } σ2 H2)
noncomputable def ml (fp:List Addr) (h:Heap):List (Addr × Obj):=fp.filterMap fun b=>(h.get? b).map fun o=>(b,o)
theorem gU {fp:List Addr} {h:Heap} {b:Addr} {o:Obj} (hb:b∈fp) (e:h.get? b = some o):(b,o)∈ml fp h:=jR.mpr ⟨b,hb,by rw [e];rfl⟩
theorem xG {fp:List Addr} {h:Heap} {p:Addr × Obj} (hp:p∈ml fp h):p.1∈fp/\h.get? p.1 = some p.2:=by
 obtain ⟨b,hb,e⟩:=jR.mp hp
 cases q:h.get? b with
 | none=>rw [q] at e;cases e
 | some o =>
   rw [q] at e
   have e':(b,o) = p:=aX e
   subst e'
   exact ⟨hb,q⟩
theorem Inv.pinned {pins:List (Addr × Obj)} {σ:St} {H:Hp} {s:Shared} {fp:List Addr} (I:Inv X pins σ H s) (hf:∀ b∈fp,kx X pins H b) (ho:∀ b∈fp,∃ o,s.heap.get? b = some o/\∀ v,o.data≠.cell v):Inv X (pins++ml fp s.heap) σ H s :=
 I.pins_of fun p hp=>(cg.mp hp).elim (fun z=>I.pin p (bz _ z)) fun z=>by
  obtain ⟨hb,e⟩:=xG z
  obtain ⟨f0,f1,f2,_⟩:=hf p.1 hb
  obtain ⟨o,e',d⟩:=ho p.1 hb
  rw [e] at e';cases e'
  exact ⟨e,f0,f1,f2,d⟩
theorem Inv.unpinned {pins pl:List (Addr × Obj)} {σ:St} {H:Hp} {s:Shared} (I:Inv X (pins++pl) σ H s):Inv X pins σ H s:=I.pins_of fun p hp=>I.pin p (bz _ (fJ _ hp))
theorem Af {iter:Expr} {body:List Stmt} {wi:TI} {g:TG} {tb:TS} {pos:Pos} (hp:PassesOwn (model X.prog X.w) X.A X.env X.xe) (hc:X.calm = true) (hi:PI X tg iter wi) (hg:PG X tg g) (hb:PSs X body tb)
 (hs:∀ x,foldedSetIterable iter X.env x = pure x:=by intro _;rfl):PS X (.For tg iter body [] pos) (KO wi g tb):=by
 intro pins s σ H D I h
 refine wpAny_For (thn (hi pins s σ H _ I h) fun v s1 h1=>thn h1 fun itv s2 h2=>?_) hs
 obtain ⟨it,fp,tn,J,H2,e,I2,T,st2,f2,W,⟨m0,w0⟩,turn⟩:=h2
 subst e
 -- what stays true of the iterator's objects through the loop
 have stat:∀ {H':Hp},(∀ b∈fp,H' b = none)->∀ b∈fp,kx X pins H' b:=fun hn b hb=>⟨hn b hb,(f2 b hb).2⟩
 refine codeAny_forLoop_any (fun n s'=>∃ i σ' H',Inv X pins σ' H' s'/\tn i s'.heap/\(∀ b∈fp,H' b = none)/\W i n σ' H') ?_ m0 ⟨0,σ,H2,I2,st2,fun b hb=>(f2 b hb).1,w0⟩
 rintro n s3 ⟨i,σ3,H3,I3,st3,fr3,w3⟩
 rcases turn i n σ3 H3 w3 with ⟨stop,qn⟩ | ⟨go,N,hN,step⟩
 . refine gx hp (thn (T.done X rfl rfl rfl hc i pins s3 σ3 H3 X.xe I3 (stat fr3) st3 stop) fun r s4 ⟨hr,I4⟩=>?_)
   subst hr
   exact wpAny_execs_nil ⟨σ3,H3,I4,qn⟩
 . refine gx hp (thn (T.item X rfl rfl rfl hc i pins s3 σ3 H3 X.xe I3 (stat fr3) st3 go) fun r s4 ⟨u,hr,h4⟩=>?_)
   subst hr
   refine gx hp (thn h4 fun _ s5 ⟨x,H5,I5,r5,y5,st5,fr5⟩=>?_)
   have I5':=I5.pinned (stat fr5) (T.obj _ _ st5)
   refine gx hp (thn (hg _ s5 σ3 H5 x u _ I5' r5 (step x H5 y5)) fun _ s6 ⟨σ6,H6,I6,q6⟩=>?_)
   refine gx hp (thn (hb _ s6 σ6 H6 _ I6 q6) fun f s7 q7=>?_)
   have again:∀ {σ7:St} {H7:Hp},Inv X (pins++ml fp s5.heap) σ7 H7 s7->N σ7 H7->∃ m,m < n/\∃ i σ' H',Inv X pins σ' H' s7/\tn i s7.heap/\(∀ b∈fp,H' b = none)/\W i m σ' H':=fun {σ7 H7} I7 n7=>by
    obtain ⟨m',hm,w7⟩:=hN σ7 H7 n7
    refine ⟨m',hm,i+1,σ7,H7,I7.unpinned,T.keep _ _ _ st5 fun b hb o e=>(I7.pin (b,o) (bz _ (bz _ (gU hb e)))).1,fun b hb=>?_,w7⟩
    obtain ⟨o,e,d⟩:=T.obj _ _ st5 b hb
    exact (I7.pin (b,o) (bz _ (bz _ (gU hb e)))).2.1
   cases f with
   | next=>obtain ⟨σ7,H7,I7,n7⟩:=q7;exact again I7 n7
   | cont=>obtain ⟨σ7,H7,I7,n7⟩:=q7;exact again I7 n7
   | brk=>obtain ⟨σ7,H7,I7,q7⟩:=q7;exact ⟨σ7,H7,I7.unpinned,q7⟩
   | ret v=>obtain ⟨x7,σ7,H7,I7,r7,q7⟩:=q7;exact ⟨x7,σ7,H7,I7.unpinned,r7,q7⟩
end
end L2
namespace L2
open PySem PySem.Spec PyProof.Rows
abbrev R2:=V->V->Hp->VK->Prop
noncomputable def OpR (X:Cx) (f:Value->Value->Sem Value) (r:R2):Prop :=
 ∀ (pins:List (Addr × Obj)) (s:Shared) (σ:St) (H:Hp) (x y:V) (v u:Value) (Q:VK),Inv X pins σ H s->RelV x v->RelV y u->r x y H Q ->
  wpAny (model X.prog X.w) X.A (f v u) (EP X pins σ Q) X.xe s
noncomputable def UnR (X:Cx) (f:Value->Sem Value) (r:V->Hp->VK->Prop):Prop :=
 ∀ (pins:List (Addr × Obj)) (s:Shared) (σ:St) (H:Hp) (x:V) (v:Value) (Q:VK),Inv X pins σ H s->RelV x v->r x H Q ->
  wpAny (model X.prog X.w) X.A (f v) (EP X pins σ Q) X.xe s
noncomputable def bT (X:Cx) (f:Value) (r:List V->Hp->VK->Prop):Prop :=
 ∀ (pins:List (Addr × Obj)) (s:Shared) (σ:St) (H:Hp) (xs:List V) (us:List Value) (Q:VK),Inv X pins σ H s->Vals xs us->r xs H Q ->
  wpAny (model X.prog X.w) X.A (call f us) (EP X pins σ Q) X.xe s
noncomputable def Lr (X:Cx) (r:V->Hp->(Bool->Hp->Prop)->Prop):Prop :=
 ∀ (pins:List (Addr × Obj)) (s:Shared) (σ:St) (H:Hp) (x:V) (v:Value) (Q:Bool->Hp->Prop),Inv X pins σ H s->RelV x v->r x H Q ->
  wpAny (model X.prog X.w) X.A (truthy v) (TP X pins σ Q) X.xe s
noncomputable def tOp (r:R2) (ta tb:TE):TE:=fun σ H Q=>ta σ H fun x H1=>tb σ H1 fun y H2=>r x y H2 Q
noncomputable def tUn (r:V->Hp->VK->Prop) (ta:TE):TE:=fun σ H Q=>ta σ H fun x H1=>r x H1 Q
noncomputable def rI (C:Int->Int->Prop) (g:Int->Int->V):R2:=fun x y H Q=>∃ i j,x = .int i/\y = .int j/\C i j/\Q (g i j) H
noncomputable def rI0 (g:Int->Int->V):R2:=fun x y H Q=>∃ i j,x = .int i/\y = .int j/\Q (g i j) H
noncomputable def rU (g:Int->V):V->Hp->VK->Prop:=fun x H Q=>∃ i,x = .int i/\Q (g i) H
section
variable {X:Cx} {a b c:Expr} {ta tb tc:TE} {pos:Pos}
theorem ID (ha:PE X a ta) (hb:PE X b tb) {pins:List (Addr × Obj)} {s:Shared} {σ:St} {H:Hp} {R:V->V->Hp->Prop} (I:Inv X pins σ H s)
 (h:ta σ H fun x H1=>tb σ H1 fun y H2=>R x y H2) {Q:Value->Shared->Prop} {f:Value->Value->Sem Value}
 (hf:∀ v u s2 x y H2,Inv X pins σ H2 s2->RelV x v->RelV y u->R x y H2->wpAny (model X.prog X.w) X.A (f v u) Q X.xe s2) :
 wpAny (model X.prog X.w) X.A (eval a X.env) (fun v s₁=>wpAny (model X.prog X.w) X.A (eval b X.env) (fun u s₂=>wpAny (model X.prog X.w) X.A (f v u) Q X.xe s₂) X.xe s₁) X.xe s:=by
 refine thn (ha pins s σ H _ I h) fun v s1 ⟨x,H1,I1,r1,q1⟩=>?_
 refine thn (hb pins s1 σ H1 _ I1 q1) fun u s2 ⟨y,H2,I2,r2,q2⟩=>?_
 exact hf v u s2 x y H2 I2 r1 r2 q2
theorem oC {op:Operator} {r:R2} (ho:OpR X (binaryOp op) r) (ha:PE X a ta) (hb:PE X b tb):PE X (.BinOp a op b pos) (tOp r ta tb):=by
 intro pins s σ H Q I h
 exact wpAny_BinOp (ID ha hb I h fun v u s2 x y H2 I2 rx ry q=>ho pins s2 σ H2 x y v u Q I2 rx ry q)
theorem Jy {op:UnaryOp} {r:V->Hp->VK->Prop} (ho:UnR X (unaryOp op) r) (ha:PE X a ta):PE X (.UnaryOp op a pos) (tUn r ta):=by
 intro pins s σ H Q I h
 exact UnaryOp_ (thn (ha pins s σ H _ I h) fun v s1 ⟨x,H1,I1,r1,q1⟩=>ho pins s1 σ H1 x v Q I1 r1 q1)
theorem opI {f:Value->Value->Sem Value} {C:Int->Int->Prop} {g:Int->Int->Int}
 (rule:∀ (i j:Int) (t u:Tok) (s:Shared) (Q:Value->Shared->Prop) (E:Value->Shared->Prop),C i j->Q (.int (g i j) s.toks) { s with toks:=s.toks+1 }->wpAny (model X.prog X.w) X.A (f (.int i t) (.int j u)) Q E s) :
 OpR X f (rI C fun i j=>.int (g i j)):=by
 intro pins s σ H x y v u Q I rx ry h
 obtain ⟨i,j,rfl,rfl,hc,q⟩:=h
 obtain ⟨t,rfl⟩:=rx
 obtain ⟨t',rfl⟩:=ry
 exact rule i j t t' s _ _ hc ⟨.int (g i j),H,I.tok _,⟨_,rfl⟩,q⟩
theorem JH {f:Value->Value->Sem Value} {g:Int->Int->Int}
 (rule:∀ (i j:Int) (t u:Tok) (s:Shared) (Q:Value->Shared->Prop) (E:Value->Shared->Prop),Q (.int (g i j) s.toks) { s with toks:=s.toks+1 }->wpAny (model X.prog X.w) X.A (f (.int i t) (.int j u)) Q E s) :
 OpR X f (rI0 fun i j=>.int (g i j)):=by
 intro pins s σ H x y v u Q I rx ry h
 obtain ⟨i,j,rfl,rfl,q⟩:=h
 obtain ⟨t,rfl⟩:=rx
 obtain ⟨t',rfl⟩:=ry
 exact rule i j t t' s _ _ ⟨.int (g i j),H,I.tok _,⟨_,rfl⟩,q⟩
theorem JI {f:Value->Value->Sem Value} {g:Int->Int->Bool}
 (rule:∀ (i j:Int) (t u:Tok) (s:Shared) (Q:Value->Shared->Prop) (E:Value->Shared->Prop),Q (.bool (g i j)) s->wpAny (model X.prog X.w) X.A (f (.int i t) (.int j u)) Q E s) :
 OpR X f (rI0 fun i j=>.bl (g i j)):=by
 intro pins s σ H x y v u Q I rx ry h
 obtain ⟨i,j,rfl,rfl,q⟩:=h
 obtain ⟨t,rfl⟩:=rx
 obtain ⟨t',rfl⟩:=ry
 exact rule i j t t' s _ _ ⟨.bl (g i j),H,I,rfl,q⟩
noncomputable def Lv (i j:Int):Prop:=0<=j/\j<=1000000/\i.natAbs < 2 ^ 64
noncomputable def Ks (i j:Int):Prop:=(-(2 ^ 64) < i/\i < 2 ^ 64)\/(-(2 ^ 64) < j/\j < 2 ^ 64)
theorem Ks.ok {i j:Int} (h:Ks i j):IntMulOk i j:=by
 rcases h with ⟨h1,h2⟩ | ⟨h1,h2⟩
 . exact .of_left (lG h1 h2)
 . exact .of_right (lG h1 h2)
theorem Hv:OpR X (binaryOp .Add) (rI0 fun i j=>.int (i+j)):=JH fun _ _ _ _ _ _ _ q=>add_int q
theorem Hm:OpR X (binaryOp .Sub) (rI0 fun i j=>.int (i - j)):=JH fun _ _ _ _ _ _ _ q=>sub_int q
theorem Hq:OpR X (binaryOp .Mod) (rI (fun _ j=>0 < j) fun i j=>.int (i % j)):=opI fun i j _ _ _ _ _ hc q=>by
 have h1:(0:Int) < j:=hc
 exact mod_int' (by omega) (by rw [qI i (by omega)];exact q)
theorem Hn:OpR X (binaryOp .Pow) (rI Lv fun i j=>.int (i ^ j.toNat)):=opI fun _ _ _ _ _ _ _ hc q=>pow_int_small hc.1 hc.2.1 hc.2.2 q
theorem unI {f:Value->Sem Value} {g:Int->Int}
 (rule:∀ (i:Int) (t:Tok) (s:Shared) (Q:Value->Shared->Prop) (E:Value->Shared->Prop),Q (.int (g i) s.toks) { s with toks:=s.toks+1 }->wpAny (model X.prog X.w) X.A (f (.int i t)) Q E s) :
 UnR X f (rU fun i=>.int (g i)):=by
 intro pins s σ H x v Q I rx h
 obtain ⟨i,rfl,q⟩:=h
 obtain ⟨t,rfl⟩:=rx
 exact rule i t s _ _ ⟨.int (g i),H,I.tok _,⟨_,rfl⟩,q⟩
theorem FW:UnR X (unaryOp .USub) (rU fun i=>.int (-i)):=unI fun _ _ _ _ _ q=>neg_int q
end
noncomputable def KY:V->V->Bool
 | .non,.non=>true | .non,.int _=>true | .int _,.non=>true | .non,.bl _=>true | .bl _,.non=>true | .non,.str _=>true | .str _,.non=>true
 | .int _,.int _=>true | .bl _,.bl _=>true | .str _,.str _=>true | .byt _,.byt _=>true
 | .int _,.str _=>true | .str _,.int _=>true | .bl _,.str _=>true | .str _,.bl _=>true
 | _,_=>false
noncomputable def rEq:R2:=fun x y H Q=>KY x y = true/\Q (.bl (decide (x = y))) H
theorem Eg {i j:Int}:decide (V.int i = V.int j) = (i == j):=by
 rw [df]
 simp
theorem Ii {i j:Bool}:decide (V.bl i = V.bl j) = (i == j):=by
 rw [df]
 simp
theorem Ef {i j:Str}:decide (V.str i = V.str j) = (i == j):=by
 rw [df]
 simp
theorem Eh {i j:Array UInt8}:decide (V.byt i = V.byt j) = (i.toList == j.toList):=by
 rw [df]
 cases i
 cases j
 simp
section
variable {X:Cx} {a b c:Expr} {ta tb tc:TE} {pos:Pos}
theorem dF {pins:List (Addr × Obj)} {σ:St} {H:Hp} {s:Shared} {Q:VK} {k k':Bool} (I:Inv X pins σ H s) (q:Q (.bl k) H) (e:k = k'):EP X pins σ Q (.bool k') s:=by
 subst e
 exact ⟨.bl k,H,I,rfl,q⟩
theorem JF:OpR X (compareOp .Eq) rEq:=by
 intro pins s σ H x y v u Q I rx ry h
 obtain ⟨hs,q⟩:=h
 cases x with
 | non =>
   cases rx
   cases y with
   | non=>cases ry;exact PySem.EqNone.eq_none_none (dF I q (by simp))
   | bl j=>cases ry;exact PySem.EqNone.eq_none_bool (dF I q (by simp))
   | int j=>obtain ⟨t',rfl⟩:=ry;exact PySem.EqNone.eq_none_int (dF I q (by simp))
   | str j=>obtain ⟨t',rfl⟩:=ry;exact PySem.EqNone.eq_none_str (dF I q (by simp))
   | _=>exact absurd (show false = true from hs) ai
 | bl i =>
   cases rx
   cases y with
   | non=>cases ry;exact PySem.EqNone.eq_bool_none (dF I q (by simp))
   | bl j=>cases ry;exact eq_bool (dF I q Ii)
   | str j=>obtain ⟨t',rfl⟩:=ry;exact PySem.EqMixed.eq_bool_str (dF I q (by simp))
   | _=>exact absurd (show false = true from hs) ai
 | int i =>
   obtain ⟨t,rfl⟩:=rx
   cases y with
   | non=>cases ry;exact PySem.EqNone.eq_int_none (dF I q (by simp))
   | int j=>obtain ⟨t',rfl⟩:=ry;exact eq_int (dF I q Eg)
   | str j=>obtain ⟨t',rfl⟩:=ry;exact PySem.EqMixed.eq_int_str (dF I q (by simp))
   | _=>exact absurd (show false = true from hs) ai
 | str i =>
   obtain ⟨t,rfl⟩:=rx
   cases y with
   | non=>cases ry;exact PySem.EqNone.eq_str_none (dF I q (by simp))
   | bl j=>cases ry;exact PySem.EqMixed.eq_str_bool (dF I q (by simp))
   | int j=>obtain ⟨t',rfl⟩:=ry;exact PySem.EqMixed.eq_str_int (dF I q (by simp))
   | str j=>obtain ⟨t',rfl⟩:=ry;exact eq_str (dF I q Ef)
   | _=>exact absurd (show false = true from hs) ai
 | byt i =>
   obtain ⟨t,rfl⟩:=rx
   cases y with
   | byt j=>obtain ⟨t',rfl⟩:=ry;exact PySem.W.eq_bytes (dF I q Eh)
   | _=>exact absurd (show false = true from hs) ai
 | _=>cases y<;>exact absurd (show false = true from hs) ai
theorem JD:OpR X (compareOp .LtE) (rI0 fun i j=>.bl (decide (i<=j))):=JI fun _ _ _ _ _ _ _ q=>le_int q
theorem JE:OpR X (compareOp .Gt) (rI0 fun i j=>.bl (decide (j < i))):=JI fun _ _ _ _ _ _ _ q=>gt_int q
theorem xF:OpR X (compareOp .In) (fun x y H Q=>∃ i j,x = .str i/\y = .str j/\Q (.bl (!(Builtin.Str.occurrences j i 0 j.length 1).isEmpty)) H):=by
 intro pins s σ H x y v u Q I rx ry h
 obtain ⟨i,j,rfl,rfl,q⟩:=h
 obtain ⟨t,rfl⟩:=rx
 obtain ⟨t',rfl⟩:=ry
 exact in_str (dF I q rfl)
theorem Hs:OpR X (compareOp .Is) (fun x y H Q=>y = .non/\Q (.bl (decide (x = .non))) H):=by
 intro pins s σ H x y v u Q I rx ry h
 obtain ⟨rfl,q⟩:=h
 cases ry
 refine is_none_gen (dF I q ?_)
 cases x<;>first
  | (cases rx;rfl)
  | (obtain ⟨t,rfl⟩:=rx;rfl)
theorem jB:OpR X (compareOp .NotIn) (fun x y H Q=>∃ i j,x = .str i/\y = .str j/\Q (.bl (!(!(Builtin.Str.occurrences j i 0 j.length 1).isEmpty))) H):=by
 intro pins s σ H x y v u Q I rx ry h
 obtain ⟨i,j,rfl,rfl,q⟩:=h
 obtain ⟨t,rfl⟩:=rx
 obtain ⟨t',rfl⟩:=ry
 exact notIn_str (dF I q rfl)
theorem OpR.or {f:Value->Value->Sem Value} {r r':R2} (h:OpR X f r) (h':OpR X f r'):OpR X f (fun x y H Q=>r x y H Q\/r' x y H Q):=by
 intro pins s σ H x y v u Q I rx ry q
 rcases q with q | q
 . exact h pins s σ H x y v u Q I rx ry q
 . exact h' pins s σ H x y v u Q I rx ry q
theorem Le (b:Expr) {op:CmpOp} (h:op≠.In:=by decide) (h2:op≠.NotIn:=by decide):behindInMarks op b = false:=by
 have e1:(op == CmpOp.In) = false:=by cases op<;>first | rfl | exact absurd rfl h
 have e2:(op == CmpOp.NotIn) = false:=by cases op<;>first | rfl | exact absurd rfl h2
 cases b<;>simp [behindInMarks,e1,e2]
theorem DB {op:CmpOp} {r:R2} (ho:OpR X (compareOp op) r) (ha:PE X a ta) (hb:PE X b tb) (hm:behindInMarks op b = false):PE X (.Compare a [op] [b] pos) (tOp r ta tb):=by
 intro pins s σ H Q I h
 exact wpAny_Compare1 (ID ha hb I h fun v u s2 x y H2 I2 rx ry q=>ho pins s2 σ H2 x y v u Q I2 rx ry q) hm
noncomputable def Jh (t:TE):TT:=fun σ H Q=>t σ H fun x H'=>∃ k,x = .bl k/\Q k H'
theorem Dv {op:CmpOp} {r:R2} (ho:OpR X (compareOp op) r) (ha:PE X a ta) (hb:PE X b tb) (hm:behindInMarks op b = false):PT X (.Compare a [op] [b] pos) (Jh (tOp r ta tb)):=by
 intro pins s σ H Q I h
 refine wpAny_isTrue_Compare1 (thn (ha pins s σ H _ I h) fun v s1 ⟨x,H1,I1,r1,q1⟩=>thn (hb pins s1 σ H1 _ I1 q1) fun u s2 ⟨y,H2,I2,r2,q2⟩ =>
  thn (ho pins s2 σ H2 x y v u _ I2 r1 r2 q2) fun c s3 ⟨z,H3,I3,r3,k,e,q3⟩=>?_) hm
 subst e
 cases r3
 exact dY ⟨H3,I3,q3⟩
noncomputable def IH (K:PySem.W.Frag) (x:V) (H:Hp) (k:Bool):Prop :=
 match x with
 | .non=>k = false
 | .bl b=>k = b
 | .int i=>k = (i != 0)
 | .str y=>y.length<=sizeLine/\k = ((y.length:Int) != 0)
 | .byt y=>y.size<=sizeLine/\k = ((y.size:Int) != 0)
 | .ref p=>(∃ xs,SqL K H p xs/\k = !xs.isEmpty)\/(∃ xs,SqT K H p xs/\k = !xs.isEmpty)\/∃ kvs,H p = some (.dK kvs)/\k = !kvs.isEmpty
 | _=>False
theorem uo {κ:Type} {kvs:List (κ × V)} {vs:List (κ × Value)} (r:KV kvs vs):(!vs.isEmpty) = !kvs.isEmpty:=by
 cases r<;>rfl
theorem mJ {xs:List V} {its:List Value} (r:Vals xs its):(!its.toArray.isEmpty) = !xs.isEmpty:=by
 cases r<;>simp
theorem kl:(sizeLine:Nat) < 2 ^ 63:=by rw [bM];decide
theorem FZ:Lr X (fun x H Q=>∃ k,IH X.K x H k/\Q k H):=by
 intro pins s σ H x v Q I rx h
 obtain ⟨k,e,q⟩:=h
 have hl:=kl
 have hs:sizeLine = 16777216:=bM
 cases x with
 | non =>
   cases rx
   have e':k = false:=e
   subst e'
   exact truthy_none ⟨H,I,q⟩
 | bl b =>
   cases rx
   have e':k = b:=e
   subst e'
   exact dY ⟨H,I,q⟩
 | int i =>
   obtain ⟨t,rfl⟩:=rx
   have e':k = (i != 0):=e
   subst e'
   exact PySem.P.truthy_int ⟨H,I,q⟩
 | str y =>
   obtain ⟨t,rfl⟩:=rx
   obtain ⟨hy,e'⟩:y.length<=sizeLine/\k = ((y.length:Int) != 0):=e
   subst e'
   exact PySem.P.truthy_str (by omega) ⟨H,I.tok _,q⟩
 | byt y =>
   obtain ⟨t,rfl⟩:=rx
   obtain ⟨hy,e'⟩:y.size<=sizeLine/\k = ((y.size:Int) != 0):=e
   subst e'
   exact PySem.W.truthy_bytes (by omega) ⟨H,I.tok _,q⟩
 | ref p =>
   cases rx
   have e':(∃ xs,SqL X.K H p xs/\k = !xs.isEmpty)\/(∃ xs,SqT X.K H p xs/\k = !xs.isEmpty)\/∃ kvs,H p = some (.dK kvs)/\k = !kvs.isEmpty:=e
   rcases e' with ⟨xs,hx,e'⟩ | ⟨xs,hx,e'⟩ | ⟨kvs,hx,e'⟩
   . subst e'
     obtain ⟨its,r,pl,hz⟩:=I.list hx
     have hlen:=r.length
     exact wpAny_truthy_list pl.isList (by simp only [aG];omega) ⟨H,I.tok _,by rw [mJ r];exact q⟩
   . subst e'
     obtain ⟨its,r,pl,hz⟩:=I.tuple hx
     have hlen:=r.length
     exact truthy_tuple pl (by simp only [aG];omega) ⟨H,I.tok _,by rw [mJ r];exact q⟩
   . subst e'
     obtain ⟨hz,hS,vs,r,m⟩:kvs.length<=sizeLine/\(p == sysModules) = false/\∃ vs,KV kvs vs/\s.heap.DictOf (qc X.prog X.w) p vs:=I.hok p _ hx
     have hlen:kvs.length = vs.length:=Paired.length r
     exact wpAny_truthy_dict hS m (by omega) ⟨H,I.tok _,by rw [uo r];exact q⟩
 | _=>exact (show False from e).elim
theorem rR (ha:PE X a ta) (he:∀ whole,isTrue a X.env whole = (do let v <- whole;standAt a.pos;holding [v] (truthy v))) :
 PT X a (fun σ H Q=>ta σ H fun x H'=>∃ k,IH X.K x H' k/\Q k H'):=by
 intro pins s σ H Q I h
 exact isTrue_plain (thn (ha pins s σ H _ I h) fun v s1 ⟨x,H1,I1,r1,q1⟩=>FZ pins s1 σ H1 x v Q I1 r1 q1) (he _)
theorem uh:OpR X (binaryOp .Add) (fun x y H Q=>∃ i j,x = .str i/\y = .str j/\i.length+j.length<=sizeLine/\Q (.str (i++j)) H):=by
 intro pins s σ H x y v u Q I rx ry h
 obtain ⟨i,j,rfl,rfl,hz,q⟩:=h
 obtain ⟨t,rfl⟩:=rx
 obtain ⟨t',rfl⟩:=ry
 exact add_str (fun t' tk=>⟨.str (i++j),H,I.tok _,⟨_,rfl⟩,q⟩) hz
theorem vals1 {x:V} {us:List Value} (r:Vals [x] us):∃ u,us = [u]/\RelV x u:=by
 cases r with
 | cons r1 r2=>cases r2;exact ⟨_,rfl,r1⟩
theorem vals2 {x y:V} {us:List Value} (r:Vals [x,y] us):∃ u w',us = [u,w']/\RelV x u/\RelV y w':=by
 cases r with
 | cons r1 r2 =>
   cases r2 with
   | cons r3 r4=>cases r4;exact ⟨_,_,rfl,r1,r3⟩
theorem yc (hc:X.calm = true):bT X (.builtin "max") (fun xs H Q=>∃ i j,xs = [.int i,.int j]/\Q (.int (if j > i then j else i)) H):=by
 intro pins s σ H xs us Q I r h
 obtain ⟨i,j,rfl,q⟩:=h
 obtain ⟨u,w',rfl,⟨t,rfl⟩,⟨t',rfl⟩⟩:=vals2 r
 refine max_two_ints (I.ok.hd hc) fun h' tk k=>⟨_,H,I.kept k,?_,q⟩
 by_cases hj:j > i
 . rw [if_pos hj,if_pos hj];exact ⟨_,rfl⟩
 . rw [if_neg hj,if_neg hj];exact ⟨_,rfl⟩
theorem xY (hc:X.calm = true):bT X (.builtin "min") (fun xs H Q=>∃ i j,xs = [.int i,.int j]/\Q (.int (if j < i then j else i)) H):=by
 intro pins s σ H xs us Q I r h
 obtain ⟨i,j,rfl,q⟩:=h
 obtain ⟨u,w',rfl,⟨t,rfl⟩,⟨t',rfl⟩⟩:=vals2 r
 refine min_two_ints (I.ok.hd hc) fun h' tk k=>⟨_,H,I.kept k,?_,q⟩
 by_cases hj:j < i
 . rw [if_pos hj,if_pos hj];exact ⟨_,rfl⟩
 . rw [if_neg hj,if_neg hj];exact ⟨_,rfl⟩
theorem ye:bT X (.type "int") (fun xs H Q=>(∃ i,xs = [.int i]/\Q (.int i) H)\/∃ k,xs = [.bl k]/\Q (.int (if k then 1 else 0)) H):=by
 intro pins s σ H xs us Q I r h
 rcases h with ⟨i,rfl,q⟩ | ⟨k,rfl,q⟩
 . obtain ⟨u,rfl,t,rfl⟩:=vals1 r
   exact call_int_int ⟨.int i,H,I,⟨_,rfl⟩,q⟩
 . obtain ⟨u,rfl,r1⟩:=vals1 r
   cases r1
   exact call_int_bool ⟨.int (if k then 1 else 0),H,I.tok _,⟨_,rfl⟩,q⟩
theorem qx:bT X (.type "str") (fun xs H Q=>∃ i,xs = [.int i]/\i.natAbs.log2 < 1920/\Q (.str (toString i)) H):=by
 intro pins s σ H xs us Q I r h
 obtain ⟨i,rfl,hz,q⟩:=h
 obtain ⟨u,rfl,t,rfl⟩:=vals1 r
 exact PySem.P.str_of_int hz ⟨.str _,H,I.tok _,⟨_,rfl⟩,q⟩
end
end L2
namespace L2
open PySem PySem.Spec PyProof.Rows
structure Kr (h:Heap) (x dx C:Addr) (mA:Str->Option Value):Prop where
 obj:h.get? x = some (PySem.W.instObj C dx)
 ns:h.Ns1 dx mA
 ne:dx≠x
theorem xH {h:Heap} {dx:Addr} {mA:Str->Option Value} (n:h.Ns1 dx mA):∃ od,h.get? dx = some od/\∀ name,PySem.W.lookIn name od = some (mA name):=by
 obtain ⟨o,es,ep,ho,hd,hk,_,hm⟩:=n
 refine ⟨o,ho,fun name=>?_⟩
 have e:=hm name
 unfold nsFind findBy at e
 rw [<- Array.find?_toList] at e
 unfold PySem.W.lookIn
 rw [hd]
 dsimp only
 split
 . rename_i y q
   rw [q] at e
   exact congrArg some e
 . rename_i q
   rw [q] at e
   have a:es.toList.any (·.refKey) = false:=by
    rw [List.any_eq_false]
    intro y hy
    obtain ⟨z,t,hkey⟩:=hk y (uL.mp hy)
    simp [DictEntry.refKey,hkey]
   have a':¬ es.toList.any (·.refKey) = true:=by rw [a];exact ai
   rw [if_neg a']
   exact congrArg some e
theorem Kr.look {h:Heap} {x dx C:Addr} {mA:Str->Option Value} (I:Kr h x dx C mA):∃ od,PySem.W.InstAt h x (PySem.W.instObj C dx) C (some od)/\∀ name,PySem.W.lookIn name od = some (mA name) :=
 let ⟨od,ho,hl⟩:=xH I.ns
 ⟨od,⟨I.obj,rfl,rfl,ho⟩,hl⟩
section
variable {prog:Program} {w:World} {A:Around} {E:Value->Shared->Prop} {s:Shared} {K:PySem.W.Frag} {x dx C f:Addr} {mA:Str->Option Value} {name:Str} {v:Value}
end
theorem dN.none_of {o:Option Value} (r:dN none o):o = none:=by
 cases o with
 | none=>rfl
 | some u=>exact (show False from r).elim
section
variable {P:Program} {w:World} {H H':Hp} {h h':Heap} {a C dx:Addr} {fs fs':List (Str × V)}
end
structure Cls (K:PySem.W.Frag) (C:Addr):Prop where
 pg:PySem.W.plainGet K C Str.empty = true
 hd:PySem.W.hasDictIn K C = true
 po:PySem.W.plainOver K C = true
 sa:PySem.W.findIn K (.ref C) "__setattr__" = some (some (.builtin "object.__setattr__"))
theorem Cls.get {K:PySem.W.Frag} {C:Addr} (c:Cls K C) (f:Str):PySem.W.plainGet K C f = true:=c.pg
structure Con (K:PySem.W.Frag) (C:Addr) (f:Str) (v:V) (u:Value):Prop where
 at_:PySem.W.findIn K (.ref C) f = some (some u)
 rel:RelV v u
 get:PySem.W.specialIn K u "__get__" = some none
 cp:PySem.W.copiedNames.contains f = false
structure Meth (K:PySem.W.Frag) (C:Addr) (m:Str) (f:Addr):Prop where
 at_:PySem.W.findIn K (.ref C) m = some (some (.ref f))
 fn:PySem.W.isFn K (.ref f) = true
 kp:PySem.W.keepIn K (.ref f) = true
section
variable {X:Cx} {pins:List (Addr × Obj)} {σ:St} {H:Hp} {s:Shared} {a C dx:Addr} {fs:List (Str × V)} {f:Str} {v:V} {A:Around} {E:Value->Shared->Prop}
theorem Inv.made (I:Inv X pins σ H s):Inv X pins σ (upd (upd H s.heap.objs.size (.own (s.heap.objs.size+1))) (s.heap.objs.size+1) (.ins C s.heap.objs.size []))
 { s with heap:=(s.heap.push PySem.W.emptyDict).push (PySem.W.instObj C s.heap.objs.size) }:=by
 have e1:(s.heap.push PySem.W.emptyDict).get? s.heap.objs.size = some PySem.W.emptyDict:=aD s.heap rfl
 have e2:((s.heap.push PySem.W.emptyDict).push (PySem.W.instObj C s.heap.objs.size)).get? (s.heap.objs.size+1) = some (PySem.W.instObj C s.heap.objs.size):=by
  have:=aD (s.heap.push PySem.W.emptyDict) (o:=PySem.W.instObj C s.heap.objs.size) rfl
  rwa [bQ] at this
 have e3:(s.heap.push PySem.W.emptyDict).Ns s.heap.objs.size (fun _=>none):=⟨PySem.W.emptyDict,#[],_,e1,rfl,(fun e he=>absurd he (by simp)),fun _=>rfl⟩
 have I1:=I.laid (a:=s.heap.objs.size) (o:=.own (s.heap.objs.size+1)) (h':=s.heap.push PySem.W.emptyDict) (t':=s.toks) (fun b u q=>ah _ q) (ay _) ⟨_,e1⟩
 refine I1.laid (a:=s.heap.objs.size+1) (o:=.ins C s.heap.objs.size []) (t':=s.toks) (fun b u q=>ah _ q) (uJ (bQ _ _)) ?_
 have ne:s.heap.objs.size≠s.heap.objs.size+1:=aH (cS _)
 refine ⟨by rw [aV ne,bt],bA _,ne,e2,fun _=>none,(Heap.Ns1.of_empty e3).at fun o q=>ah _ q,fun _=>True.intro,fun y hy=>absurd rfl hy⟩
end
section
variable {X:Cx} {o e value:Expr} {f:Str} {pos pos' tpos:Pos} {ta tv:TE}
end
section
variable {X:Cx} {pins:List (Addr × Obj)} {σ:St} {H:Hp} {s:Shared} {A:Around} {E:Value->Shared->Prop} {Q:Value->Shared->Prop} {c:Value} {b:Bool}
inductive nk (K:PySem.W.Frag) (H:Hp):V->Value->Prop where
 | non:nk K H .non (.type "NoneType")
 | bl (x:Bool):nk K H (.bl x) (.type "bool")
 | int (i:Int):nk K H (.int i) (.type "int")
 | str (x:Str):nk K H (.str x) (.type "str")
 | flt (x:UInt64):nk K H (.flt x) (.type "float")
 | lst {a:Addr} {xs:List V} (e:H a = some (.lst xs)):nk K H (.ref a) (.type "list")
 | frz {a:Addr} {o:Obj} {xs:List V} (e:H a = some (.frz o (.lst xs))):nk K H (.ref a) (.type "list")
 | tup {a:Addr} {xs:List V} (e:H a = some (.tup xs)):nk K H (.ref a) (.type "tuple")
 | dK {a:Addr} {kvs:List (Key × V)} (e:H a = some (.dK kvs)):nk K H (.ref a) (.type "dict")
 | dT {a:Addr} {kvs:List (List Key × V)} (e:H a = some (.dT kvs)):nk K H (.ref a) (.type "dict")
 | ins {a C dx:Addr} {fs:List (Str × V)} (e:H a = some (.ins C dx fs)) (cl:Cls K C) (ha:PySem.W.findIn K (.ref C) "__class__" = some (some (.builtin "object.__class__")))
    (hn:PySem.W.specialIn K (.builtin "object.__class__") "__get__" = some (some (.builtin "getset_descriptor.__get__"))) (htk:PySem.W.takesIn K (.builtin "object.__class__") = some true)
    (hm:PySem.W.mroIn K C (.type "object") = some true):nk K H (.ref a) (.ref C)
end
end L2
namespace L2
open PySem PySem.Spec PyProof.Rows
structure eJ (k:Nat) (A:Around):Prop where
 hd:A.handled = none
 dp:A.depth+3 * k+5 < recursionLimit
 un:A.units+16 * k+200 < cLine
theorem eJ.mono {j k:Nat} {A:Around} (r:eJ k A) (h:j<=k):eJ j A:=⟨r.hd,by have:=r.dp;omega,by have:=r.un;omega⟩
theorem eJ.deeper {k:Nat} {A:Around} (r:eJ (k+1) A) (env:Env):eJ k (A.deeper env) :=
 ⟨r.hd,by have:=r.dp;show A.depth+1+3 * k+5 < _;omega,by have:=r.un;show A.units+3+16 * k+200 < _;omega⟩
theorem eJ.in1 {k:Nat} {A:Around} (r:eJ (k+1) A):eJ k A.in1 :=
 ⟨r.hd,by have:=r.dp;show A.depth+3 * k+5 < _;omega,by have:=r.un;show A.units+1+16 * k+200 < _;omega⟩
theorem uk {A:Around} {C:Addr} {us:List Value} {kw:List (Str × Value)}:(A.under (.builtin "type.__call__" ⟨.ref C::us,kw⟩)).depth = A.depth+1:=by
 first | rfl | simp [Around.under,Code.weight,Code.isCreation,Code.isGuard,Code.isCaller,Code.frames,Code.isFrame,guardIds]
theorem uj {A:Around} {C:Addr} {us:List Value} {kw:List (Str × Value)}:(A.under (.builtin "type.__call__" ⟨.ref C::us,kw⟩)).units = A.units+1:=by
 first | rfl | simp [Around.under,Code.cUnits,Code.frames,Code.isFrame]
theorem eJ.make {k:Nat} {A:Around} (r:eJ (k+1) A) (C:Addr) (us:List Value) (kw:List (Str × Value)):eJ k (A.under (.builtin "type.__call__" ⟨.ref C::us,kw⟩)) :=
 ⟨r.hd,by have:=r.dp;rw [uk];omega,by have:=r.un;rw [uj];omega⟩
theorem eJ.depth {k:Nat} {A:Around} (r:eJ k A):A.depth < recursionLimit:=by have:=r.dp;omega
theorem eJ.units {k:Nat} {A:Around} (r:eJ k A):A.units+64 < cLine:=by have:=r.un;omega
noncomputable def Jl:TA:=fun _ H Q=>Q [] H
noncomputable def uS (ta:TE) (tr:TA):TA:=fun σ H Q=>ta σ H fun x H1=>tr σ H1 fun xs H2=>Q (x::xs) H2
section
variable {X:Cx} {e:Expr} {es:List Expr} {te:TE} {t:TA} {pos:Pos}
theorem gQ:PA X [] Jl:=fun _ _ _ _ H Q I h=>Calls.spliced_nil ⟨[],H,I,.nil,h⟩
theorem eS (ha:PE X e te) (hr:PA X es t) (hs:starEach (e::es) X.env = (false,eval e X.env)::starEach es X.env:=by rfl):PA X (e::es) (uS te t):=by
 intro pos pins s σ H Q I h
 rw [hs]
 show wpAny _ _ (spliced ((false,eval e X.env)::backTo pos (starEach es X.env))) _ _ s
 refine Calls.spliced_cons (thn (ha pins s σ H _ I h) fun u s1 ⟨x,H1,I1,r1,q1⟩=>?_)
 exact thn (hr pos pins s1 σ H1 _ I1 q1) fun us s2 ⟨xs,H2,I2,r2,q2⟩=>⟨x::xs,H2,I2,.cons r1 r2,q2⟩
noncomputable def KC (t:TA):TE:=fun σ H Q=>t σ H fun xs H1=>xs.length<=sizeLine/\∀ p,H1 p = none->Q (.ref p) (upd H1 p (.tup xs))
noncomputable def KL (t:TA):TE:=fun σ H Q=>t σ H fun xs H1=>xs.length<=sizeLine/\∀ p,H1 p = none->Q (.ref p) (upd H1 p (.lst xs))
theorem Hd {x1} (h:PA X es t):PE X (.Tuple es x1 pos) (KC t):=by
 intro pins s σ H Q I hq
 refine wpAny_Tuple_spliced (thn (h pos pins s σ H _ I hq) fun us s1 ⟨xs,H1,I1,r,z,q⟩=>⟨by rw [<- r.length];exact z,?_⟩)
 have hf:H1 s1.heap.objs.size = none:=I1.hok.fresh (ay _)
 refine ⟨.ref s1.heap.objs.size,upd H1 s1.heap.objs.size (.tup xs),I1.laid (t':=s1.toks) (fun b u e=>ah _ e) (ay _) ?_,rfl,q _ hf⟩
 exact ⟨z,us,r,⟨_,aD _ rfl,rfl,_,rfl⟩⟩
theorem mn (h:PA X es t):PE X (.List es pos) (KL t):=by
 intro pins s σ H Q I hq
 refine wpAny_List_spliced (thn (h pos pins s σ H _ I hq) fun us s1 ⟨xs,H1,I1,r,z,q⟩=>⟨by rw [<- r.length];exact z,?_⟩)
 have hf:H1 s1.heap.objs.size = none:=I1.hok.fresh (ay _)
 refine ⟨.ref s1.heap.objs.size,upd H1 s1.heap.objs.size (.lst xs),I1.laid (t':=s1.toks) (fun b u e=>ah _ e) (ay _) ?_,rfl,q _ hf⟩
 exact ⟨z,us,0,r,aD _ rfl⟩
end
abbrev Sp:=List V->Hp->VK->XK->Prop
abbrev CXT:=List Env->Hp->Shared->XK->Value->Shared->Prop
structure nu (P:Program) (w:World) (K:PySem.W.Frag) (mg:Str->Option Value) (base:Heap) (A:Around) (outer:List Env) (s:Shared) (H:Hp):Prop where
 frames:A.frames = some outer
 mod:Mod K mg base
 bs:∀ b o,base.get? b = some o->s.heap.get? b = some o/\H b = none
 bsz:base.objs.size<=s.heap.objs.size
 funs:s.heap.FunFrames base outer
 frf:∀ b∈frs outer,H b = none
 hok:HOk P w H s.heap
 bare:AllBare s.gens
noncomputable def CE (outer:List Env) (P:Program) (w:World) (H:Hp) (s:Shared) (Q:VK) (u:Value) (s':Shared):Prop :=
 ∃ v H',s'.os = s.os/\AllBare s'.gens/\Un (frs outer) [] H H' s.heap s'.heap/\HOk P w H' s'.heap/\RelV v u/\Q v H'
noncomputable def CR (CX:CXT) (outer:List Env) (P:Program) (w:World) (H:Hp) (s:Shared) (Q:VK) (E:XK) (r:Result) (s':Shared):Prop :=
 match r with
 | .ok (.ret u)=>CE outer P w H s Q u s'
 | .ok _=>False
 | .error e=>CX outer H s E e s'
structure fN (P:Program) (w:World) (K:PySem.W.Frag) (mg:Str->Option Value) (base:Heap) (CX:CXT) (k:Nat) (f:Addr) (fd:FuncData) (ps:List Str) (sp:Sp):Prop where
 len:∀ vs H Q E,sp vs H Q E->vs.length = ps.length
 run:∀ (A:Around) (outer:List Env) (s:Shared) (H:Hp) (args:Args) (us:List Value) (vs:List V) (Q:VK) (E:XK),eJ k A->nu P w K mg base A outer s H->BindsTo s fd args (ps.zip us)->Vals vs us->sp vs H Q E ->
  codeAny (model P w) A (.call (.ref f) args) (CR CX outer P w H s Q E) s
theorem fN.mono {P:Program} {w:World} {K:PySem.W.Frag} {mg:Str->Option Value} {base:Heap} {CX:CXT} {j k:Nat} {f:Addr} {fd:FuncData} {ps:List Str} {sp:Sp} (F:fN P w K mg base CX j f fd ps sp) (h:j<=k) :
 fN P w K mg base CX k f fd ps sp:=⟨F.len,fun A outer s H args us vs Q E hr=>F.run A outer s H args us vs Q E (hr.mono h)⟩
theorem fN.imp {P:Program} {w:World} {K:PySem.W.Frag} {mg:Str->Option Value} {base:Heap} {CX:CXT} {k:Nat} {f:Addr} {fd:FuncData} {ps:List Str} {sp sp':Sp} (F:fN P w K mg base CX k f fd ps sp)
 (h:∀ vs H Q E,sp' vs H Q E->sp vs H Q E):fN P w K mg base CX k f fd ps sp' :=
 ⟨fun vs H Q E q=>F.len vs H Q E (h _ _ _ _ q),fun A outer s H args us vs Q E hr he hb hv hs=>F.run A outer s H args us vs Q E hr he hb hv (h _ _ _ _ hs)⟩
theorem nu.make {P:Program} {w:World} {K:PySem.W.Frag} {mg:Str->Option Value} {base:Heap} {A:Around} {outer:List Env} {s:Shared} {H:Hp} (e:nu P w K mg base A outer s H) (C:Addr) (us:List Value) (kw:List (Str × Value)) :
 nu P w K mg base (A.under (.builtin "type.__call__" ⟨.ref C::us,kw⟩)) outer s H:=⟨by first | exact e.frames | (simpa [Around.under,Code.envs,Code.isFrame,pushEnvs] using e.frames),e.mod,e.bs,e.bsz,e.funs,e.frf,e.hok,e.bare⟩
theorem nu.in1 {P:Program} {w:World} {K:PySem.W.Frag} {mg:Str->Option Value} {base:Heap} {A:Around} {outer:List Env} {s:Shared} {H:Hp} (e:nu P w K mg base A outer s H) :
 nu P w K mg base A.in1 outer s H:=⟨e.frames,e.mod,e.bs,e.bsz,e.funs,e.frf,e.hok,e.bare⟩
section
variable {X:Cx} {pins:List (Addr × Obj)} {σ:St} {H:Hp} {s s':Shared}
theorem Inv.env0 (I:Inv X pins σ H s):nu X.prog X.w X.K X.mg X.base X.A X.stack s H :=
 ⟨I.ok.frames,I.ok.mod,I.bs,bK I.ok.bsz I.sz,I.stack,I.stkFree,I.hok,I.bare⟩
theorem Inv.after {Q:VK} {u:Value} (I:Inv X pins σ H s) (h:CE X.stack X.prog X.w H s Q u s'):EP X pins σ Q u s':=by
 obtain ⟨v,H',os,bare,un,hok,r,q⟩:=h
 obtain ⟨hh,g,d,t,os'⟩:=s'
 obtain rfl:os' = s.os:=os
 exact ⟨v,H',I.call (h':=hh) (g':=g) (d':=d) (t':=t) (ch:=[]) un hok bare (fun b z=>absurd z (by simp)),r,q⟩
end
noncomputable def Jo (sp:Sp) (dvs:List V) (E:XK) (t:TA):TE:=fun σ H Q=>t σ H fun vs H1=>sp (vs++dvs) H1 Q E
noncomputable def Binds (K:PySem.W.Frag) (fd:FuncData) (ps:List Str) (ds:List Value):Prop :=
 ∀ (s:Shared) (us:List Value),K.In s.heap->(us++ds).length = ps.length->BindsTo s fd ⟨us,[]⟩ (ps.zip (us++ds))
theorem Binds.all {K:PySem.W.Frag} {fd:FuncData} {ps:List Str} (h:∀ us:List Value,us.length = ps.length->bindArgs fd ⟨us,[]⟩ = pure (ps.zip us)):Binds K fd ps []:=fun s us _ hl=>by
 rw [cP] at hl ⊢
 exact .of_eq (h us hl)
noncomputable def Passes (CX:CXT) (X:Cx) (E:XK):Prop:=∀ (pins:List (Addr × Obj)) (σ:St) (H:Hp) (s:Shared) (e:Value) (s':Shared),Inv X pins σ H s->CX X.stack H s E e s'->X.xe e s'
section
variable {X:Cx} {CX:CXT} {k:Nat} {f C:Addr} {fd:FuncData} {ps:List Str} {sp:Sp} {dvs:List V} {ds:List Value} {E:XK} {x m:Str} {p pos apos:Pos} {e o:Expr} {es:List Expr} {ta:TE} {t:TA}
theorem GK {pins:List (Addr × Obj)} {σ:St} {H:Hp} {s:Shared} {Q:VK} {us:List Value} {vs:List V} (F:fN X.prog X.w X.K X.mg X.base CX k f fd ps sp) (hr:eJ k X.A) (hb:Binds X.K fd ps ds) (hd:Vals dvs ds) (hx:Passes CX X E)
 (I:Inv X pins σ H s) (r:Vals vs us) (h:sp (vs++dvs) H Q E):wpAny (model X.prog X.w) X.A (call (.ref f) us) (EP X pins σ Q) X.xe s:=by
 have r2:Vals (vs++dvs) (us++ds):=r.append hd
 have hl:(us++ds).length = ps.length:=by rw [<- r2.length];exact F.len _ _ _ _ h
 refine wpAny_call (gJ (F.run X.A X.stack s H ⟨us,[]⟩ (us++ds) (vs++dvs) Q E hr I.env0 (hb s us I.kIn hl) r2 h) fun r s' hq=>?_)
 cases r with
 | error e=>exact hx pins σ H s e s' I hq
 | ok fl =>
   cases fl with
   | ret u=>exact I.after hq
   | next=>exact False.elim hq
   | brk=>exact False.elim hq
   | cont=>exact False.elim hq
theorem vj (F:fN X.prog X.w X.K X.mg X.base CX k f fd ps sp) (hr:eJ k X.A) (hg:Gl X x) (hm:X.mg x = some (.ref f)) (hk:PySem.W.keepIn X.K (.ref f) = true) (hb:Binds X.K fd ps ds) (hd:Vals dvs ds) (hx:Passes CX X E)
 (ha:PA X (e::es) t) (hdb:(x == ("__debug__":Str)) = false:=by decide) (he:starEach (e::es) X.env = (false,eval e X.env)::starEach es X.env:=by rfl) (hpl:(backTo pos (starEach es X.env)).any (·.1) = false:=by rfl) :
 PE X (.Call (.Name x p) (e::es) [] pos) (Jo sp dvs E t):=by
 intro pins s σ H Q I h
 refine nv (vG I hg hm ?_ hdb)
 refine PySem.W.callWith_K (h₀:=X.base) I.ok.mod.kin hk (thn (ha pos pins s σ H _ I h) fun us s1 ⟨vs,H1,I1,r,q⟩=>⟨I1.kIn,?_⟩) he hpl
 exact GK F hr hb hd hx I1 r q
structure Mk (K:PySem.W.Frag) (C f:Addr):Prop where
 makes:PySem.W.makesIn K C = true
 init:PySem.W.findIn K (.ref C) "__init__" = some (some (.ref f))
 fn:PySem.W.isFn K (.ref f) = true
 kp:PySem.W.keepIn K (.ref C) = true
end
section
variable {X:Cx} {CX:CXT} {k:Nat} {f C:Addr} {fd:FuncData} {ps ks:List Str} {sp:Sp} {E:XK} {x m:Str} {p pos apos kpos:Pos} {e o:Expr} {es:List Expr} {kws:List Keyword} {te ta:TE} {t tk:TA} {nm:Option Str}
structure Lu (K:PySem.W.Frag) (fd:FuncData) (ps ks:List Str) (g:List Value->List Value->List Value) (gV:List V->List V->List V):Prop where
 to:∀ (s:Shared) (us ws:List Value),K.In s.heap->(g us ws).length = ps.length->BindsTo s fd ⟨us,ks.zip ws⟩ (ps.zip (g us ws))
 rel:∀ {vs:List V} {us:List Value} {zs:List V} {ws:List Value},Vals vs us->Vals zs ws->Vals (gV vs zs) (g us ws)
variable {g:List Value->List Value->List Value} {gV:List V->List V->List V}
end
structure bx (N P:List Str) (sc:Scope):Prop where
 kind:sc.kind = .function
 co:sc.isCoroutine = false
 gen:sc.isGenerator = false
 nd:N.Nodup
 pre:N.take P.length = P
 par:∀ x∈P,sc.names.lookup x = some .local\/sc.names.lookup x = some .cell
 nofree:∀ y∈sc.names,y.2≠.free
theorem oX {kindOf:Str->Option NameKind} {x:Str}:∀ {binds:List (Str × Value)} {m:Str->Option Value},(∀ v,(x,v)∉binds)->bindL kindOf binds m x = m x
 | [],_,_=>rfl
 | (n,v)::r,m,h=>by
   unfold bindL
   rw [oX fun w hw=>h w (av _ hw)]
   split
   . have:x≠n:=by rintro rfl;exact h v ak
     simp [this]
   . rfl
theorem oZ {kindOf:Str->Option NameKind} {x:Str}:∀ {binds:List (Str × Value)} {m:Str->Option Value},(∀ v,(x,v)∉binds)->bindC kindOf binds m x = m x
 | [],_,_=>rfl
 | (n,v)::r,m,h=>by
   unfold bindC
   rw [oZ fun w hw=>h w (av _ hw)]
   split
   . rfl
   . have:x≠n:=by rintro rfl;exact h v ak
     simp [this]
theorem oY {kindOf:Str->Option NameKind} {x:Str} {v:Value}:∀ {P:List Str} {vs:List Value} {i:Nat} {m:Str->Option Value},P.Nodup->P[i]? = some x->vs[i]? = some v->kindOf x = some .local ->
 bindL kindOf (P.zip vs) m x = some v
 | [],_,_,_,_,h,_,_=>by simp at h
 | _::_,[],_,_,_,_,h,_=>by simp at h
 | p::P,w::vs,0,m,nd,h1,h2,hk=>by
   simp at h1 h2;subst h1;subst h2
   show bindL kindOf ((p,w)::P.zip vs) m p = _
   unfold bindL
   rw [oX fun v hv=>(eM.mp nd).1 (nA hv).1,if_pos hk]
   simp
 | p::P,w::vs,i+1,m,nd,h1,h2,hk=>by
   show bindL kindOf ((p,w)::P.zip vs) m x = _
   unfold bindL
   exact oY (i:=i) (eM.mp nd).2 (by simpa using h1) (by simpa using h2) hk
theorem pb {kindOf:Str->Option NameKind} {x:Str} {v:Value}:∀ {P:List Str} {vs:List Value} {i:Nat} {m:Str->Option Value},P.Nodup->P[i]? = some x->vs[i]? = some v->kindOf x≠some .local ->
 bindC kindOf (P.zip vs) m x = some v
 | [],_,_,_,_,h,_,_=>by simp at h
 | _::_,[],_,_,_,_,h,_=>by simp at h
 | p::P,w::vs,0,m,nd,h1,h2,hk=>by
   simp at h1 h2;subst h1;subst h2
   show bindC kindOf ((p,w)::P.zip vs) m p = _
   unfold bindC
   rw [oZ fun v hv=>(eM.mp nd).1 (nA hv).1,if_neg hk]
   simp
 | p::P,w::vs,i+1,m,nd,h1,h2,hk=>by
   show bindC kindOf ((p,w)::P.zip vs) m x = _
   unfold bindC
   exact pb (i:=i) (eM.mp nd).2 (by simpa using h1) (by simpa using h2) hk
noncomputable def start (N:List Str) (vs:List V):St:=vs.map some++List.replicate (N.length - vs.length) none
noncomputable def kS (CX:CXT) (P:Program) (w:World) (K:PySem.W.Frag) (mg:Str->Option Value) (base:Heap) (N:List Str) (qual:Str) (scope:Scope) (f:Addr) (cd:Value) (A:Around) (outer:List Env) (s:Shared) (H:Hp) (E:XK):Cx where
 prog:=P
 w:=w
 K:=K
 mg:=mg
 base:=base
 A:=A.deeper (envOfC qual scope s.heap.objs.size f cd)
 N:=N
 s₀:=s
 H₀:=H
 env:=envOfC qual scope s.heap.objs.size f cd
 outer:=outer
 stack:=envOfC qual scope s.heap.objs.size f cd::outer
 ex:=[]
 calm:=true
 fn:=fun _=>true
 pn:=[]
 xe:=fun e s'=>wpAny (model P w) (A.deeper (envOfC qual scope s.heap.objs.size f cd)) (leaving (envOfC qual scope s.heap.objs.size f cd) e) (fun _ s''=>CX outer H s E e s'') (fun e' s''=>CX outer H s E e' s'') s'
theorem sR {sc:Scope} {n:Nat} {x:Str} (h:sc.names.lookup x = some .cell):∃ c,(cellsFrom n sc.names []).lookup x = some c:=by
 have q:=PySem.W.cellsFrom_some sc.names n [] (.inl h)
 exact eB.mp q
theorem xJ {CX:CXT} {P:Program} {w:World} {K:PySem.W.Frag} {mg:Str->Option Value} {base:Heap} {N ps:List Str} {qual:Str} {scope:Scope} {f:Addr} {cd:Value} {A:Around} {outer:List Env} {s s1:Shared} {H:Hp} {E:XK} {us:List Value} {vs:List V}
 (S:bx N ps scope) (hd:A.handled = none) (e0:nu P w K mg base A outer s H) (hl:vs.length = ps.length) (r:Vals vs us)
 (x:InCallC s s.heap.objs.size (bindL (envOfC qual scope s.heap.objs.size f cd).kindOf (ps.zip us) fun _=>none) (cellsFrom (s.heap.objs.size+1) scope.names []) (bindC (envOfC qual scope s.heap.objs.size f cd).kindOf (ps.zip us) fun _=>none) s1) :
 Inv (kS CX P w K mg base N qual scope f cd A outer s H E) [] (start N vs) H s1:=by
 have hpl:ps.length<=N.length:=by have:=congrArg List.length S.pre;rw [bj] at this;omega
 obtain ⟨h1,tk,rfl,hk⟩:=x.done
 have noA:∀ b:Addr,b∉(kS CX P w K mg base N qual scope f cd A outer s H E).ex:=fun b z=>absurd (show b∈([]:List Addr) from z) (by simp)
 refine ⟨⟨e0.mod,S.kind,rfl,rfl,ay _,fun y z c h1 h2=>?_,fun y hy=>?_,fun y c _ h=>?_,fun _=>hd,Around.frames_deeper e0.frames,.inr ⟨rfl,rfl⟩,fun b z=>absurd z (noA b),e0.bs,e0.bsz,fun b _ _=>noA b,fun b z=>absurd z (noA b),e0.funs,e0.frf⟩,
  rfl,e0.bare,Un.kept hk,⟨_,x.toInCall.ns,fun i y v h1 h2 h3=>?_⟩,fun y c h=>⟨_,x.cell y c h⟩,e0.hok.fresh (ay _),fun y c h=>?_,fun p hp=>absurd (show p∈([]:List (Addr × Obj)) from hp) (by simp),e0.hok.kept hk,?_⟩
 . exact name_of_addr x.apart (PySem.mem_of_lookup h1) (PySem.mem_of_lookup h2)
 . have hy:scope.names.lookup y = some .cell\/scope.names.lookup y = some .free:=hy
   rcases hy with hy | hy
   . exact sR hy
   . exact absurd rfl (S.nofree _ (PySem.mem_of_lookup hy))
 . exact iG (x.above y c (PySem.mem_of_lookup h))
 . have hi:i < vs.length:=by
    unfold start at h2
    by_cases hi:i < vs.length
    . exact hi
    . rw [aU (by simpa using hi)] at h2
      rw [dv] at h2
      split at h2<;>cases h2
   have ha:vs[i]? = some v:=by
    unfold start at h2
    rw [aM (by simpa using hi),aS] at h2
    cases e:vs[i]? with
    | none=>rw [e] at h2;cases h2
    | some a=>rw [e] at h2;cases h2;rfl
   obtain ⟨u,hu,rv⟩:=r.get ha
   have hp:ps[i]? = some y:=by
    rw [<- S.pre,cG (by omega)];exact h1
   have ndP:ps.Nodup:=by rw [<- S.pre];exact S.nd.sublist (List.take_sublist _ _)
   refine ⟨u,rv,?_⟩
   rcases S.par y (aO hp) with k | k
   . exact .inl ⟨k,oY ndP hp hu k⟩
   . obtain ⟨c,e⟩:=sR (n:=s.heap.objs.size+1) k
     refine .inr ⟨.inl k,c,e,?_⟩
     have q:=x.cell y c e
     rw [pb ndP hp hu (by show scope.names.lookup y≠_;rw [k];decide)] at q
     exact q
 . exact e0.hok.fresh (iG (x.above y c (PySem.mem_of_lookup h)))
 . unfold start
   show _ = N.length
   rw [az,aj,dI]
   omega
theorem ET {CX:CXT} {P:Program} {w:World} {K:PySem.W.Frag} {mg:Str->Option Value} {base:Heap} {k:Nat} {f:Addr} {name qual:Str} {params:Arguments} {body:List Stmt} {scope:Scope} {dV kV doc pm cdv ct oc:Value} {an od:Option Addr}
 {osl:Array (Option Value)} {N ps:List Str} {sp:Sp} (lk:K.lookup f = some ⟨oc,od,.func (PySem.W.fnOf name qual params body scope dV kV doc pm an cdv ct),osl⟩) (hcd:PySem.W.codeIn K cdv qual = true) (S:bx N ps scope)
 (len:∀ vs H Q E,sp vs H Q E->vs.length = ps.length)
 (hbody:∀ (A:Around) (outer:List Env) (s:Shared) (H:Hp) (vs:List V) (Q:VK) (E:XK),eJ k (A.deeper (envOfC qual scope s.heap.objs.size f cdv))->sp vs H Q E ->
   ∃ t,PSs (kS CX P w K mg base N qual scope f cdv A outer s H E) body t/\t { nx:=fun _ H'=>Q .non H',rt:=Q } (start N vs) H) :
 fN P w K mg base CX (k+1) f (PySem.W.fnOf name qual params body scope dV kV doc pm an cdv ct) ps sp:=by
 refine ⟨len,fun A outer s H args us vs Q E hr e0 hb r hsp=>?_⟩
 have hl:=len _ _ _ _ hsp
 have KX:K.In s.heap:=e0.mod.kin.keeps fun b o e=>(e0.bs b o e).1
 have lim:s.heap.NoLimit:=e0.mod.nolimit.keeps fun b o e=>(e0.bs b o e).1
 have hkind:∀ y∈ps.zip us,scope.names.lookup y.1 = some .local\/(scope.names.lookup y.1 = some .cell/\((cellsFrom (s.heap.objs.size+1) scope.names []).lookup y.1).isSome = true):=fun ⟨n,v⟩ hy=>by
  rcases S.par n (nA hy).1 with q | q
  . exact .inl q
  . exact .inr ⟨q,PySem.W.cellsFrom_some _ _ _ (.inl q)⟩
 refine codeAny_call_function hr.depth (KX _ _ lk) rfl S.co S.gen rfl (PySem.W.codeRec_of KX hcd) (hb _ _ _ _ ?_)
 refine wpAny_newFunctionEnv_cells S.kind hkind fun env he s1 x=>?_
 subst he
 refine ⟨lim.keeps x.toInCall.keep,codeAny_func ?_⟩
 obtain ⟨t,ht,hq⟩:=hbody A outer s H vs Q E (hr.deeper _) hsp
 have I:Inv (kS CX P w K mg base N qual scope f cdv A outer s H E) [] (start N vs) H s1:=xJ S hr.hd e0 hl r x
 refine fk (ht [] s1 (start N vs) H _ I hq) (fun fl s' hs=>?_) fun e s' hs=>hs
 have fin:∀ {σ':St} {H':Hp} {v:V} {u:Value},Inv (kS CX P w K mg base N qual scope f cdv A outer s H E) [] σ' H' s'->RelV v u->Q v H'->CE outer P w H s Q u s' :=
  fun {σ' H' v u} J rv q=>⟨v,H',J.os,J.bare,J.base,J.hok,rv,q⟩
 cases fl with
 | ret u =>
   obtain ⟨v,σ',H',J,rv,q⟩:=hs
   exact fin J rv q
 | next =>
   obtain ⟨σ',H',J,q⟩:=hs
   exact fin (v:=V.non) (u:=Value.none) J rfl q
 | brk =>
   obtain ⟨_,_,_,q⟩:=hs
   exact False.elim q
 | cont =>
   obtain ⟨_,_,_,q⟩:=hs
   exact False.elim q
end L2
namespace L2
open PySem PySem.Spec PyProof.Rows
section
variable {X:Cx} {x:Str} {p pos:Pos} {e:Expr} {es:List Expr} {t:TA} {id T:String} {r:List V->Hp->VK->Prop}
noncomputable def tCB (r:List V->Hp->VK->Prop) (t:TA):TE:=fun σ H Q=>t σ H fun vs H1=>r vs H1 Q
theorem fv (hc:bT X (.builtin id) r) (hg:Gl X x) (hm:X.mg x = none) (hv:bootBuiltins x = some (.builtin id)) (ha:PA X (e::es) t) (hn:x≠"__name__":=by decide) (hdb:(x == ("__debug__":Str)) = false:=by decide)
 (he:starEach (e::es) X.env = (false,eval e X.env)::starEach es X.env:=by rfl) (hpl:(backTo pos (starEach es X.env)).any (·.1) = false:=by rfl):PE X (.Call (.Name x p) (e::es) [] pos) (tCB r t):=by
 intro pins s σ H Q I h
 refine nv (mH I hg hm hv ?_ hn hdb)
 exact PyProof.Rows.callWith_builtin1 (thn (ha pos pins s σ H _ I h) fun us s1 ⟨vs,H1,I1,r1,q1⟩=>hc pins s1 σ H1 vs us Q I1 r1 q1) he hpl
theorem fP (hc:bT X (.type T) r) (hg:Gl X x) (hm:X.mg x = none) (hv:bootBuiltins x = some (.type T)) (ha:PA X (e::es) t) (hn:x≠"__name__":=by decide) (hdb:(x == ("__debug__":Str)) = false:=by decide)
 (he:starEach (e::es) X.env = (false,eval e X.env)::starEach es X.env:=by rfl) (hpl:(backTo pos (starEach es X.env)).any (·.1) = false:=by rfl):PE X (.Call (.Name x p) (e::es) [] pos) (tCB r t):=by
 intro pins s σ H Q I h
 refine nv (mH I hg hm hv ?_ hn hdb)
 exact fq (thn (ha pos pins s σ H _ I h) fun us s1 ⟨vs,H1,I1,r1,q1⟩=>hc pins s1 σ H1 vs us Q I1 r1 q1) he hpl
end
end L2
namespace HT
open PySem PyProof.Rows
section
open PySem.SeqAt
open PySem.AutoSeq1 (wpAny_loadPart')
open PySem.MeetsSeq PySem.MeetsSeq2 PySem.MeetsSeq3
end
section
variable {prog:Program} {w:World} {A:Around} {E:Value->Shared->Prop} {s:Shared}
theorem cat_tup {t b:Addr} {vs ws:List Value} {Q:Value->Shared->Prop} (ht:IsTup s.heap t vs.toArray) (hb:IsTup s.heap b ws.toArray) (hv:vs≠[])
 (h1:ws = []->Q (.ref t) s) (h2:ws≠[]->Q (.ref s.heap.objs.size) { s with heap:=s.heap.push { cls:=.type "tuple",data:=.seq (vs++ws).toArray } })
 (hsz:vs.length+ws.length<=sizeLine):wpAny (model prog w) A (binaryOp .Add (.ref t) (.ref b)) Q E s:=by
 obtain ⟨⟨cls,dd,data,sl⟩,ho,hc,n,hd⟩:=id ht
 obtain ⟨⟨cls2,dd2,data2,sl2⟩,ho2,hc2,n2,hd2⟩:=id hb
 simp only at hc hd hc2 hd2
 subst hc hd hc2 hd2
 have e:vs.toArray++ws.toArray = (vs++ws).toArray:=by simp
 by_cases hw:ws = []
 . exact BL ⟨_,ho,rfl⟩ ⟨_,ho2,rfl⟩ qG yk PySem.F.slot_tuple_add PySem.F.entry_tuple_add (PySem.F.args_tuple_add_2 _ _)
    (tuple_addW1 t b vs.toArray ws.toArray n n2 dd dd2 sl sl2 (by simpa using hv) (by simp [hw])) ⟨ho,ho2,h1 hw⟩
 . refine BL ⟨_,ho,rfl⟩ ⟨_,ho2,rfl⟩ qG yk PySem.F.slot_tuple_add PySem.F.entry_tuple_add (PySem.F.args_tuple_add_2 _ _)
    (tuple_addW2 t b vs.toArray ws.toArray n n2 dd dd2 sl sl2 (by simpa using hv) (by simpa using hw) (by rw [aG,aG];exact hsz)) ⟨ho,ho2,?_⟩
   rw [e]
   exact h2 hw
noncomputable def sIx (n d:Nat):Option Int->Nat
 | none=>d
 | some v=>if v < 0 then (v+(n:Int)).toNat else min v.toNat n
theorem sIx_nat (n d k:Nat):sIx n d (some (k:Int)) = min k n:=by
 show (if (k:Int) < 0 then ((k:Int)+(n:Int)).toNat else min (k:Int).toNat n) = min k n
 rw [if_neg (by omega),lg]
theorem GC (n d:Nat) (hd:d<=n) (o:Option Int):sIx n d o<=n:=by
 cases o with
 | none=>exact hd
 | some v =>
   show (if v < 0 then (v+(n:Int)).toNat else min v.toNat n)<=n
   by_cases hv:v < 0
   . rw [if_pos hv];omega
   . rw [if_neg hv];exact Nat.min_le_right _ _
theorem vZ (v:Int) (n d:Nat):(if v < 0 then max (v+(n:Int)) 0 else min v (n:Int)) = ((sIx n d (some v):Nat):Int):=by
 show (if v < 0 then max (v+(n:Int)) 0 else min v (n:Int)) = (((if v < 0 then (v+(n:Int)).toNat else min v.toNat n):Nat):Int)
 by_cases hv:v < 0
 . simp only [if_pos hv];omega
 . simp only [if_neg hv];omega
theorem uD (lo hi:Option Int) (n:Nat):Builtin.Slice.sliceAdjust lo hi 1 (n:Int) = (((sIx n 0 lo:Nat):Int),((sIx n n hi:Nat):Int)):=by
 have h1:¬ ((1:Int) < 0):=by omega
 unfold Builtin.Slice.sliceAdjust
 simp only [h1,if_false]
 refine Prod.ext ?_ ?_
 . cases lo with
   | none=>rfl
   | some v=>exact vZ v n 0
 . cases hi with
   | none=>rfl
   | some v=>exact vZ v n n
theorem uf (i j:Nat):Builtin.Slice.slicePlaces (i:Int) (j:Int) 1 = j - i:=by
 unfold Builtin.Slice.slicePlaces
 have h1:(1:Int) > 0:=by omega
 simp only [h1,if_true,Int.ediv_one]
 split<;>omega
theorem lY {v:Value} {o:Option Int} {Q:Option Int->Shared->Prop} (p:IsPart v o) (h:Q o s):wpAny (model prog w) A (Builtin.Slice.slicePartIndex v) Q E s:=by
 cases p with
 | none=>exact slicePart_none h
 | int i t=>exact slicePart_int h
theorem jY {sl:Addr} {vl vu:Value} {lo hi:Option Int} {n:Nat} {Q:Int × Int × Nat->Shared->Prop} (hs:s.heap.IsSliceOf sl vl vu .none) (pl:IsPart vl lo) (pu:IsPart vu hi)
 (h:Q (((sIx n 0 lo:Nat):Int),1,sIx n n hi - sIx n 0 lo) s):wpAny (model prog w) A (Builtin.Slice.sliceApplied (.ref sl) (pure (n:Int))) Q E s:=by
 obtain ⟨os,hos,hcs,hds⟩:=id hs
 unfold Builtin.Slice.sliceApplied Builtin.Slice.sliceFields
 refine ag (ag (Ew hos hds (x:=vl) rfl (ag (Ew hos hds (x:=vu) rfl (ag (Ew hos hds (x:=.none) rfl (ar ?_)))))))
 refine ag (slicePart_none ?_)
 show wpAny _ _ (if ((1:Int) == 0) = true then _ else _) _ _ s
 rw [if_neg (by decide)]
 refine ag (lY pl (ag (lY pu (ag (ar ?_)))))
 show wpAny _ _ (match Builtin.Slice.sliceAdjust lo hi 1 (n:Int) with | (lo,hi)=>pure (lo,(1:Int),Builtin.Slice.slicePlaces lo hi 1)) _ _ s
 rw [uD lo hi n]
 show wpAny _ _ (pure (((sIx n 0 lo:Nat):Int),(1:Int),Builtin.Slice.slicePlaces ((sIx n 0 lo:Nat):Int) ((sIx n n hi:Nat):Int) 1)) _ _ s
 rw [uf]
 exact ar h
theorem Ai (xs:Array Value) (i k:Nat):((List.range k).filterMap fun (m:Nat)=>xs[((i:Int)+(m:Int) * 1).toNat]?).toArray = ((xs.toList.drop i).take k).toArray:=by
 have e:(fun (m:Nat)=>xs[((i:Int)+(m:Int) * 1).toNat]?) = fun m=>xs[i+m]? := by
  funext m
  have:((i:Int)+(m:Int) * 1).toNat = i+m:=by omega
  rw [this]
 rw [e]
 have:=pick_run xs i k
 rw [List.filterMap_map] at this
 have e2:((fun x=>xs[x]?) ∘ fun x=>i+x) = fun m=>xs[i+m]? := rfl
 rw [e2] at this
 rw [this]
theorem getItem_tuple_cut {t sl:Addr} {items:Array Value} {vl vu:Value} {lo hi:Option Int} {Q:Value->Shared->Prop} (ht:IsTup s.heap t items) (hs:s.heap.IsSliceOf sl vl vu .none) (pl:IsPart vl lo) (pu:IsPart vu hi)
 (hw:¬ (sIx items.size 0 lo = 0/\sIx items.size items.size hi = items.size))
 (h:Q (.ref s.heap.objs.size) { s with heap:=s.heap.push { cls:=.type "tuple",data:=.seq ((items.toList.drop (sIx items.size 0 lo)).take (sIx items.size items.size hi - sIx items.size 0 lo)).toArray } })
 (hsz:items.size<=sizeLine):wpAny (model prog w) A (getItem (.ref t) (.ref sl)) Q E s:=by
 have htake:sizeOk (.seq ((items.toList.drop (sIx items.size 0 lo)).take (sIx items.size items.size hi - sIx items.size 0 lo)).toArray):=by
  show ((items.toList.drop (sIx items.size 0 lo)).take (sIx items.size items.size hi - sIx items.size 0 lo)).toArray.size<=sizeLine
  rw [aG,bj,fA,ba]
  omega
 have hj:sIx items.size items.size hi<=items.size:=GC _ _ (ay _) hi
 obtain ⟨os,hos,hcs,hds⟩:=id hs
 have hTs:s.TypeIs (.ref sl) "slice":=⟨os,hos,hcs⟩
 unfold getItem
 try with_reducible refine cN ?_
 first | refine ag (ar ?_) | skip
 refine ag (wpAny_sequenceKey ht.typeIs (by decide) ?_)
 refine ag (iW (name:=Str.ofString "__getitem__") ht.typeIs iX
  (cL iX ht.typeIs entry_tuple_getitem ?_ (args_tuple_getitem _ _)))
 show wpAny _ _ (Builtin.Tuple.tupleItemsOf (.ref t) >>= _) _ _ s
 refine ag (tupleItemsOf_ ht ?_)
 refine ag (nZ hTs ?_)
 rw [if_pos (by decide)]
 refine ag (jY hs pl pu ?_)
 have hno:¬ ((((sIx items.size 0 lo:Nat):Int) == 0 && (1:Int) == 1 && (sIx items.size items.size hi - sIx items.size 0 lo) == items.size) = true):=by
  intro q
  rw [aa,aa] at q
  have q1:((sIx items.size 0 lo:Nat):Int) = 0:=eq_of_beq q.1.1
  have q2:sIx items.size items.size hi - sIx items.size 0 lo = items.size:=eq_of_beq q.2
  exact hw ⟨by omega,by omega⟩
 show wpAny _ _ (if (((sIx items.size 0 lo:Nat):Int) == 0 && (1:Int) == 1 && (sIx items.size items.size hi - sIx items.size 0 lo) == items.size) = true then _ else _) _ _ s
 rw [if_neg hno,Ai]
 first
  | exact ag (m:=Builtin.Tuple.tupleExact _) (bw (ar ⟨_,rfl,ar h⟩) htake)
  | exact ag (m:=Builtin.Tuple.tupleExact _) (bw (ag (ar (ar ⟨_,rfl,ar h⟩))) htake)
  | exact ag (ag (m:=Builtin.Tuple.tupleExact _) (bw (ar (ar ⟨_,rfl,ar h⟩)) htake))
  | exact ag (ag (m:=Builtin.Tuple.tupleExact _) (bw (ar ⟨_,rfl,ar h⟩) htake))
end
end HT
namespace L2
open PySem PySem.Spec PyProof.Rows
abbrev TO:=St->Hp->(Option Int->Hp->Prop)->Prop
noncomputable def PO (X:Cx) (e:Option Expr) (t:TO):Prop :=
 ∀ (pins:List (Addr × Obj)) (s:Shared) (σ:St) (H:Hp) (Q:Option Int->Hp->Prop),Inv X pins σ H s->t σ H Q ->
  wpAny (model X.prog X.w) X.A (evalPart e X.env) (fun u s'=>∃ o H',Inv X pins σ H' s'/\IsPart u o/\Q o H') X.xe s
noncomputable def Cy:TO:=fun _ H Q=>Q none H
noncomputable def Jj (t:TE):TO:=fun σ H Q=>t σ H fun x H1=>∃ i,x = .int i/\Q (some i) H1
section
variable {X:Cx} {e:Expr} {te:TE} {lo hi:Option Expr} {tl th:TO} {pos p2:Pos}
theorem Dz:PO X none Cy:=by
 intro pins s σ H Q I h
 rw [evalPart_none]
 exact ar ⟨none,H,I,.none,h⟩
theorem Dy (h:PE X e te):PO X (some e) (Jj te):=by
 intro pins s σ H Q I hw
 rw [evalPart_some]
 refine thn (h pins s σ H _ I hw) fun u s1 ⟨x,H1,I1,r1,q1⟩=>?_
 obtain ⟨i,rfl,q⟩:=q1
 obtain ⟨t,rfl⟩:=r1
 exact ⟨some i,H1,I1,.int i t,q⟩
noncomputable def SlR (X:Cx) (r:V->Option Int->Option Int->Hp->VK->Prop):Prop :=
 ∀ (pins:List (Addr × Obj)) (s:Shared) (σ:St) (H:Hp) (x:V) (v vl vu:Value) (lo hi:Option Int) (sl:Addr) (Q:VK),Inv X pins σ H s->RelV x v->s.heap.IsSliceOf sl vl vu .none->IsPart vl lo->IsPart vu hi->r x lo hi H Q ->
  ∃ T id,typeLookup (.type T) "__getitem__" = pure (some (.builtin id))/\s.TypeIs v T/\wpAny (model X.prog X.w) X.A (getItem v (.ref sl)) (EP X pins σ Q) X.xe s
theorem SlR.or {r r':V->Option Int->Option Int->Hp->VK->Prop} (h:SlR X r) (h':SlR X r'):SlR X (fun x lo hi H Q=>r x lo hi H Q\/r' x lo hi H Q):=by
 intro pins s σ H x v vl vu lo hi sl Q I rx hs pl pu q
 rcases q with q | q
 . exact h pins s σ H x v vl vu lo hi sl Q I rx hs pl pu q
 . exact h' pins s σ H x v vl vu lo hi sl Q I rx hs pl pu q
noncomputable def tSl (r:V->Option Int->Option Int->Hp->VK->Prop) (te:TE) (tl th:TO):TE:=fun σ H Q=>te σ H fun x H1=>tl σ H1 fun l H2=>th σ H2 fun u H3=>r x l u H3 Q
theorem rW {r:V->Option Int->Option Int->Hp->VK->Prop} (hr:SlR X r) (he:PE X e te) (hl:PO X lo tl) (hu:PO X hi th):PE X (.Subscript e (.Slice lo hi none p2) pos) (tSl r te tl th):=by
 intro pins s σ H Q I h
 refine Subscript_ (thn (he pins s σ H _ I h) fun v s1 ⟨x,H1,I1,r1,q1⟩=>?_)
 refine wpAny_Slice (thn (hl pins s1 σ H1 _ I1 q1) fun vl s2 ⟨l,H2,I2,pl,q2⟩=>thn (hu pins s2 σ H2 _ I2 q2) fun vu s3 ⟨u,H3,I3,pu,q3⟩=>?_)
 rw [evalPart_none]
 refine ar ?_
 have I4:Inv X pins σ H3 { s3 with heap:=s3.heap.push { cls:=.type "slice",data:=.fields #[vl,vu,.none] } }:=I3.kept (t':=s3.toks) fun b ob q=>ah _ q
 obtain ⟨T,id,hT,ht,hg⟩:=hr pins { s3 with heap:=s3.heap.push { cls:=.type "slice",data:=.fields #[vl,vu,.none] } } σ H3 x v vl vu l u s3.heap.objs.size Q I4 r1 (Heap.IsSliceOf.new ..) pl pu q3
 show wpAny (model X.prog X.w) X.A (subscriptTail e (.Slice lo hi none p2) v (.ref s3.heap.objs.size)) (EP X pins σ Q) X.xe { s3 with heap:=s3.heap.push { cls:=.type "slice",data:=.fields #[vl,vu,.none] } }
 exact tail_any (ops:=[.ref s3.heap.objs.size,v]) ht hT hg (by with_unfolding_all rfl)
noncomputable def nQ (xs:List V) (lo hi:Option Int):List V:=(xs.drop (HT.sIx xs.length 0 lo)).take (HT.sIx xs.length xs.length hi - HT.sIx xs.length 0 lo)
theorem kG (xs:List V) (lo hi:Option Int):(nQ xs lo hi).length<=xs.length:=by
 unfold nQ
 rw [bj,fA]
 omega
noncomputable def La (K:PySem.W.Frag):V->Option Int->Option Int->Hp->VK->Prop:=fun x lo hi H Q=>∃ a xs,x = .ref a/\SqT K H a xs /\
 ¬ (HT.sIx xs.length 0 lo = 0/\HT.sIx xs.length xs.length hi = xs.length)/\∀ p,H p = none->Q (.ref p) (upd H p (.tup (nQ xs lo hi)))
theorem Gw:SlR X (La X.K):=by
 intro pins s σ H x v vl vu lo hi sl Q I rx hs pl pu h
 obtain ⟨a,xs,rfl,hx,hw,q⟩:=h
 cases rx
 obtain ⟨its,r,ht,hz⟩:=I.tuple hx
 have hlen:its.toArray.size = xs.length:=by rw [aG];exact r.length.symm
 refine ⟨"tuple",_,PyProof.Rows.slot_tuple_getitem.lookup,ht.typeIs,?_⟩
 refine HT.getItem_tuple_cut ht hs pl pu (by rw [hlen];exact hw) ?_ (by rw [hlen];exact hz)
 rw [hlen]
 refine ⟨.ref s.heap.objs.size,_,I.laid (t':=s.toks) (o:=.tup (nQ xs lo hi)) (fun b ob q=>ah _ q) (ay _) ?_,rfl,q _ (I.hok.fresh (ay _))⟩
 exact ⟨bK (kG xs lo hi) hz,_,(r.drop (HT.sIx xs.length 0 lo)).take (HT.sIx xs.length xs.length hi - HT.sIx xs.length 0 lo),qK _ _⟩
noncomputable def Jw (K:PySem.W.Frag):R2:=fun x y H Q=>∃ a b xs ys,x = .ref a/\y = .ref b/\SqT K H a xs/\SqT K H b ys/\xs≠[]/\xs.length+ys.length<=sizeLine /\
 (ys = []->Q (.ref a) H)/\(ys≠[]->∀ p,H p = none->Q (.ref p) (upd H p (.tup (xs++ys))))
theorem Vals.nil_iff {xs:List V} {us:List Value} (r:Vals xs us):us = []↔xs = []:=by
 cases r with
 | nil=>simp
 | cons _ _=>simp
theorem DI:OpR X (binaryOp .Add) (Jw X.K):=by
 intro pins s σ H x y v u Q I rx ry h
 obtain ⟨a,b,xs,ys,rfl,rfl,ha,hb,hx,hz,q1,q2⟩:=h
 cases rx
 cases ry
 obtain ⟨its,r1,p1,_⟩:=I.tuple ha
 obtain ⟨its2,r2,p2,_⟩:=I.tuple hb
 refine HT.cat_tup p1 p2 (fun z=>hx (r1.nil_iff.mp z)) (fun z=>⟨.ref a,H,I,rfl,q1 (r2.nil_iff.mp z)⟩) (fun z=>?_) (by rw [<- r1.length,<- r2.length];exact hz)
 refine ⟨.ref s.heap.objs.size,_,I.laid (t':=s.toks) (o:=.tup (xs++ys)) (fun b ob q=>ah _ q) (ay _) ?_,rfl,q2 (fun w=>z (r2.nil_iff.mpr w)) _ (I.hok.fresh (ay _))⟩
 exact ⟨by rw [az];exact hz,_,r1.append r2,qK _ _⟩
end
end L2
namespace L2
open PySem PySem.Spec PyProof.Rows
noncomputable def ixN (n:Nat) (i:Int):Option Nat:=if 0<=i then (if i < n then some i.toNat else none) else if -(n:Int)<=i then some (i+n).toNat else none
noncomputable def atI {α:Type} (xs:List α) (i:Int):Option α:=(ixN xs.length i).bind fun j=>xs[j]?
theorem vJ {n:Nat} {i:Int} {j:Nat} (h:ixN n i = some j):seqIndex? i n = some j/\j < n/\-(n:Int)<=i/\i < n:=by
 unfold ixN at h
 by_cases h0:0<=i
 . rw [if_pos h0] at h
   by_cases h1:i < n
   . rw [if_pos h1] at h
     have e:i.toNat = j:=aX h
     exact ⟨by rw [seqIndex_of h0 h1,e],by omega,by omega,h1⟩
   . rw [if_neg h1] at h;cases h
 . rw [if_neg h0] at h
   by_cases h1:-(n:Int)<=i
   . rw [if_pos h1] at h
     have e:(i+n).toNat = j:=aX h
     exact ⟨by rw [seqIndex_neg (by omega) h1,e],by omega,h1,by omega⟩
   . rw [if_neg h1] at h;cases h
theorem qD {α:Type} {xs:List α} {i:Int} {v:α} (h:atI xs i = some v):∃ j,seqIndex? i xs.length = some j/\xs[j]? = some v/\j < xs.length/\-(xs.length:Int)<=i/\i < xs.length:=by
 unfold atI at h
 cases e:ixN xs.length i with
 | none=>rw [e] at h;cases h
 | some j =>
   rw [e] at h
   obtain ⟨h1,h2,h3,h4⟩:=vJ e
   exact ⟨j,h1,h,h2,h3,h4⟩
theorem atI_nat {α:Type} {xs:List α} {j:Nat} {v:α} (h:xs[j]? = some v):atI xs (j:Int) = some v:=by
 have hj:j < xs.length:=(aE.mp h).1
 have e:ixN xs.length (j:Int) = some j:=by
  unfold ixN
  rw [if_pos (by omega),if_pos (by omega)];simp
 unfold atI;rw [e];exact h
noncomputable def PlainIx (b:Expr):Prop:=∀ o i,subscripted b false o i = operate [o,i] (getItem o i)
noncomputable def IxR (X:Cx) (r:R2):Prop :=
 ∀ (value slice:Expr) (pins:List (Addr × Obj)) (s:Shared) (σ:St) (H:Hp) (x y:V) (v u:Value) (Q:VK),Inv X pins σ H s->RelV x v->RelV y u->r x y H Q ->
  subscripted slice false v u = operate [v,u] (getItem v u)->wpAny (model X.prog X.w) X.A (subscriptTail value slice v u) (EP X pins σ Q) X.xe s
noncomputable def MtR (X:Cx) (id:String) (r:V->List V->Hp->VK->Prop):Prop :=
 ∀ (pins:List (Addr × Obj)) (s:Shared) (σ:St) (H:Hp) (x:V) (xs:List V) (v:Value) (us:List Value) (Q:VK),Inv X pins σ H s->RelV x v->Vals xs us->r x xs H Q ->
  wpAny (model X.prog X.w) X.A (call (.builtin id) (v::us)) (EP X pins σ Q) X.xe s
section
variable {X:Cx} {a b:Expr} {ta tb:TE} {pos:Pos}
theorem IxR.or {r r':R2} (h:IxR X r) (h':IxR X r'):IxR X (fun x y H Q=>r x y H Q\/r' x y H Q):=by
 intro value slice pins s σ H x y v u Q I rx ry q hs
 rcases q with q | q
 . exact h value slice pins s σ H x y v u Q I rx ry q hs
 . exact h' value slice pins s σ H x y v u Q I rx ry q hs
theorem MtR.or {id:String} {r r':V->List V->Hp->VK->Prop} (h:MtR X id r) (h':MtR X id r'):MtR X id (fun x xs H Q=>r x xs H Q\/r' x xs H Q):=by
 intro pins s σ H x xs v us Q I rx rs q
 rcases q with q | q
 . exact h pins s σ H x xs v us Q I rx rs q
 . exact h' pins s σ H x xs v us Q I rx rs q
theorem EE {r:R2} (hr:IxR X r) (ha:PE X a ta) (hb:PE X b tb) (hs:PlainIx b):PE X (.Subscript a b pos) (tOp r ta tb):=by
 intro pins s σ H Q I h
 exact Subscript_ (ID ha hb I h fun v u s2 x y H2 I2 rx ry q=>hr a b pins s2 σ H2 x y v u Q I2 rx ry q (hs _ _))
noncomputable def Jv (K:PySem.W.Frag):R2:=fun x y H Q=>∃ p xs i v,x = .ref p/\y = .int i/\SqL K H p xs/\atI xs i = some v/\Q v H
noncomputable def Jt (K:PySem.W.Frag):R2:=fun x y H Q=>∃ p xs i v,x = .ref p/\y = .int i/\SqT K H p xs/\atI xs i = some v/\Q v H
noncomputable def Ju:R2:=fun x y H Q=>∃ z i c,x = .str z/\y = .int i/\z.length<=sizeLine/\atI z.cps.toList i = some c/\Q (.str ⟨#[c]⟩) H
theorem DU:IxR X (Jv X.K):=by
 intro value slice pins s σ H x y v u Q I rx ry h hs
 obtain ⟨p,xs,i,z,rfl,rfl,hq,he,q⟩:=h
 cases rx
 obtain ⟨t,rfl⟩:=ry
 obtain ⟨its,r,pl,hz⟩:=I.list hq
 obtain ⟨j,h1,h2,h3,h4,h5⟩:=qD he
 obtain ⟨w,ew,rw'⟩:=r.get h2
 have hl:=r.length
 have hn:=kl
 have fin:EP X pins σ Q w s:=⟨z,H,I,rw',q⟩
 by_cases h0:0<=i
 . have hj:i.toNat = j:=by
    rw [seqIndex_of h0 h5] at h1
    exact aX h1
   exact item_listR pl.isList h0 (by omega) (by rw [hj];simpa using ew) fin hs
 . have hj:(i+(its.toArray.size:Int)).toNat = j:=by
    rw [seqIndex_neg (by omega) h4] at h1
    rw [aG,<- hl]
    exact aX h1
   exact BK (x:=w) pl.isList.typeIs slot_list_getitem.lookup
    (wpAny_getItem_list_neg (Q:=fun r s'=>r = w/\EP X pins σ Q r s') pl.isList (by omega) (by rw [aG]<;>omega) (by omega) (by rw [hj];simpa using ew) ⟨rfl,fin⟩) hs
theorem HS:IxR X (Jt X.K):=by
 intro value slice pins s σ H x y v u Q I rx ry h hs
 obtain ⟨p,xs,i,z,rfl,rfl,hq,he,q⟩:=h
 cases rx
 obtain ⟨t,rfl⟩:=ry
 obtain ⟨its,r,pl,hz⟩:=I.tuple hq
 obtain ⟨j,h1,h2,h3,h4,h5⟩:=qD he
 obtain ⟨w,ew,rw'⟩:=r.get h2
 have hl:=r.length
 have hn:=kl
 have fin:EP X pins σ Q w s:=⟨z,H,I,rw',q⟩
 exact BK (x:=w) pl.typeIs slot_tuple_getitem.lookup
  (getItem_tuple (j:=j) (Q:=fun r s'=>r = w/\EP X pins σ Q r s') pl (by omega) (by omega) (by rw [aG,<- hl];exact h1) (by simpa using ew) ⟨rfl,fin⟩) hs
theorem HU:IxR X Ju:=by
 intro value slice pins s σ H x y v u Q I rx ry h hs
 obtain ⟨z,i,c,rfl,rfl,hz,he,q⟩:=h
 obtain ⟨t,rfl⟩:=rx
 obtain ⟨t',rfl⟩:=ry
 obtain ⟨j,h1,h2,h3,h4,h5⟩:=qD he
 have hl:z.cps.toList.length = z.length:=by simp [Str.length]
 rw [hl] at h1 h4 h5
 have hn:=kl
 exact tail_any (IP s z t) slot_str_getitem.lookup (getItem_str (c:=c) (by
  have e1:decide (i < -(2 ^ 63:Int)) = false:=decide_eq_false (by omega)
  have e2:decide (i ≥ 2 ^ 63) = false:=decide_eq_false (by omega)
  rw [e1,e2,Bool.or_false]) (by rw [h1];simpa using h2) ⟨.str ⟨#[c]⟩,H,I.tok _,⟨_,rfl⟩,q⟩) hs
noncomputable def rIx (K:PySem.W.Frag):R2:=fun x y H Q=>Jv K x y H Q\/Jt K x y H Q\/Ju x y H Q
theorem AW:IxR X (rIx X.K):=DU.or (HS.or HU)
theorem Inv.lst {pins:List (Addr × Obj)} {σ:St} {H:Hp} {s:Shared} {p:Addr} {xs:List V} (I:Inv X pins σ H s) (h:H p = some (.lst xs)) :
 ∃ (its:List Value) (n:Nat),Vals xs its/\s.heap.get? p = some { cls:=.type "list",data:=.seq its.toArray n }/\xs.length<=sizeLine:=by
 obtain ⟨z,its,n,r,e⟩:=I.hok p _ h
 exact ⟨its,n,r,e,z⟩
theorem pN (lo hi:Option Int) (n:Nat):(sliceBounds lo hi none n).1 = ((HT.sIx n 0 lo:Nat):Int)/\(sliceBounds lo hi none n).2.1 = ((HT.sIx n n hi:Nat):Int)/\(sliceBounds lo hi none n).2.2 = 1:=by
 refine ⟨?_,?_,rfl⟩
 . cases lo with
   | none=>simp [sliceBounds,HT.sIx]
   | some i =>
     simp only [sliceBounds,HT.sIx,yy,show (1:Int) > 0 by decide,if_true]
     by_cases h:i < 0
     . simp only [h,if_true]<;>omega
     . simp only [h,if_false]<;>omega
 . cases hi with
   | none=>simp [sliceBounds,HT.sIx]
   | some i =>
     simp only [sliceBounds,HT.sIx,yy,show (1:Int) > 0 by decide,if_true]
     by_cases h:i < 0
     . simp only [h,if_true]<;>omega
     . simp only [h,if_false]<;>omega
theorem nE (its:List Value) (lo hi:Option Int):slicePick its.toArray lo hi none = ((its.drop (HT.sIx its.length 0 lo)).take (HT.sIx its.length its.length hi - HT.sIx its.length 0 lo)).toArray:=by
 obtain ⟨h1,h2,h3⟩:=pN lo hi its.toArray.size
 unfold slicePick
 rw [h1,h2,h3]
 simp only [sliceRange_one,pick_run,aG]<;>rfl
noncomputable def Lc (K:PySem.W.Frag):V->Option Int->Option Int->Hp->VK->Prop:=fun x lo hi H Q=>∃ a xs,x = .ref a/\SqL K H a xs/\∀ p,H p = none->Q (.ref p) (upd H p (.lst (nQ xs lo hi)))
theorem uX:SlR X (Lc X.K):=by
 intro pins s σ H x v vl vu lo hi sl Q I rx hs pl pu h
 obtain ⟨a,xs,rfl,hx,q⟩:=h
 cases rx
 obtain ⟨its,r,ht,hz⟩:=I.list hx
 have hlen:=r.length
 refine ⟨"list",_,slot_list_getitem.lookup,ht.isList.typeIs,?_⟩
 refine wpAny_getItem_list_slice ht.isList hs pl pu .none (by simp) ?_ (by rw [aG]<;>omega)
 rw [nE,<- hlen]
 refine ⟨.ref s.heap.objs.size,_,I.laid (t':=s.toks) (o:=.lst (nQ xs lo hi)) (fun b ob q=>ah _ q) (ay _) ?_,rfl,q _ (I.hok.fresh (ay _))⟩
 exact ⟨bK (kG xs lo hi) hz,_,0,(r.drop (HT.sIx xs.length 0 lo)).take (HT.sIx xs.length xs.length hi - HT.sIx xs.length 0 lo),aD _ rfl⟩
theorem qB:bT X (.builtin "len") (fun xs H Q=>∃ p ys,xs = [.ref p]/\(SqL X.K H p ys\/SqT X.K H p ys)/\Q (.int ys.length) H):=by
 intro pins s σ H xs us Q I r h
 obtain ⟨p,ys,rfl,hq,q⟩:=h
 obtain ⟨u,rfl,rx⟩:=vals1 r
 cases rx
 have hn:=kl
 rcases hq with hq | hq
 . obtain ⟨its,r',pl,hz⟩:=I.list hq
   have hlen:=r'.length
   exact Calls.call_len_list pl.isList (by simp only [aG]<;>omega) ⟨.int ys.length,H,I.tok _,⟨s.toks+1,by rw [aG,hlen]⟩,q⟩
 . obtain ⟨its,r',pl,hz⟩:=I.tuple hq
   have hlen:=r'.length
   exact len_tuple pl (by simp only [aG]<;>omega) ⟨.int ys.length,H,I.tok _,⟨s.toks+1,by rw [aG,hlen]⟩,q⟩
theorem qA:bT X (.builtin "len") (fun xs H Q=>∃ z,xs = [.str z]/\z.length<=sizeLine/\Q (.int z.length) H):=by
 intro pins s σ H xs us Q I r h
 obtain ⟨z,rfl,hz,q⟩:=h
 obtain ⟨u,rfl,t,rfl⟩:=vals1 r
 have hn:=kl
 exact len_str (by omega) ⟨.int z.length,H,I.tok _,⟨_,rfl⟩,q⟩
theorem bT.or {f:Value} {r r':List V->Hp->VK->Prop} (h:bT X f r) (h':bT X f r'):bT X f (fun xs H Q=>r xs H Q\/r' xs H Q):=by
 intro pins s σ H xs us Q I rs q
 rcases q with q | q
 . exact h pins s σ H xs us Q I rs q
 . exact h' pins s σ H xs us Q I rs q
theorem jL:bT X (.type "list") (fun xs H Q=>∃ p ys,xs = [.ref p]/\(SqL X.K H p ys\/SqT X.K H p ys)/\∀ l,H l = none->Q (.ref l) (upd H l (.lst ys))):=by
 intro pins s σ H xs us Q I r h
 obtain ⟨p,ys,rfl,hq,q⟩:=h
 obtain ⟨u,rfl,rx⟩:=vals1 r
 cases rx
 have fin:∀ (its:List Value),Vals ys its->ys.length<=sizeLine->∀ (h':Heap) (c':Nat),(∀ b o',s.heap.get? b = some o'->h'.get? b = some o') ->
  h'.get? s.heap.objs.size = some { cls:=.type "list",dict:=none,data:=.seq its.toArray c',slots := #[] }->EP X pins σ Q (.ref s.heap.objs.size) { s with heap:=h' }:=fun its r' hz h' c' kp e =>
  ⟨.ref s.heap.objs.size,_,I.laid (t':=s.toks) kp (ay _) (show fI X.prog X.w _ h' _ (.lst ys) from ⟨hz,its,c',r',e⟩),rfl,q _ (I.hok.fresh (ay _))⟩
 rcases hq with hq | hq
 . obtain ⟨its,r',pl,hz⟩:=I.list hq
   have hlen:=r'.length
   obtain ⟨o,ho,hc,n,hd⟩:=pl.isList
   exact call_list_seq p (.inl rfl) ho hc hd (fun h' c' kp e=>fin its r' hz h' c' kp e) (by simp only [aG]<;>omega)
 . obtain ⟨its,r',pl,hz⟩:=I.tuple hq
   have hlen:=r'.length
   obtain ⟨o,ho,hc,n,hd⟩:=pl
   exact call_list_seq p (.inr rfl) ho hc hd (fun h' c' kp e=>fin its r' hz h' c' kp e) (by simp only [aG]<;>omega)
theorem nY:bT X (.type "tuple") (fun xs H Q=>∃ p ys,xs = [.ref p]/\((SqL X.K H p ys/\∀ l,H l = none->Q (.ref l) (upd H l (.tup ys)))\/(SqT X.K H p ys/\Q (.ref p) H))):=by
 intro pins s σ H xs us Q I r h
 obtain ⟨p,ys,rfl,h⟩:=h
 obtain ⟨u,rfl,rx⟩:=vals1 r
 cases rx
 rcases h with ⟨hq,q⟩ | ⟨hq,q⟩
 . obtain ⟨its,r',pl,hz⟩:=I.list hq
   have hlen:=r'.length
   refine call_tuple_list pl.isList (fun h' kp=>?_) (by simp only [aG]<;>omega)
   have I1:Inv X pins σ H { s with heap:=h' }:=I.kept (t':=s.toks) kp
   have I2:Inv X pins σ (upd H h'.objs.size (.tup ys)) { s with heap:=h'.push { cls:=.type "tuple",data:=.seq its.toArray } } :=
    I1.laid (t':=s.toks) (fun b o e=>ah _ e) (ay _) (show fI X.prog X.w _ _ _ (.tup ys) from ⟨hz,its,r',qK _ _⟩)
   exact ⟨.ref h'.objs.size,_,I2,rfl,q _ (I1.hok.fresh (ay _))⟩
 . obtain ⟨its,r',pl,hz⟩:=I.tuple hq
   exact call_tuple_same pl ⟨.ref p,H,I,rfl,q⟩
noncomputable def tyV (K:PySem.W.Frag) (T:String) (x:V) (H:Hp):Prop:=match x with
 | .str _=>T = "str"
 | .int _=>T = "int"
 | .ref p=>(T = "list"/\∃ xs,SqL K H p xs)\/(T = "tuple"/\∃ o,K.lookup p = some o/\o.cls = .type "tuple"/\o.dict = none) \/
    (T = "dict"/\((∃ kvs,H p = some (.dK kvs))\/∃ kvs,H p = some (.dT kvs)))\/(T = "set"/\∃ S n,H p = some (.set S n))
 | _=>False
theorem FX {pins:List (Addr × Obj)} {σ:St} {H:Hp} {s:Shared} {T:String} {x:V} {v:Value} (I:Inv X pins σ H s) (r:RelV x v) (ty:tyV X.K T x H) :
 s.TypeIs v T/\∀ a,v = .ref a->∃ ob,s.heap.get? a = some ob/\ob.dict = none:=by
 cases x with
 | str z =>
   obtain ⟨t,rfl⟩:=r
   cases (show T = "str" from ty)
   exact ⟨IP s z t,fun _ e=>nomatch e⟩
 | int i =>
   obtain ⟨t,rfl⟩:=r
   cases (show T = "int" from ty)
   exact ⟨uE s i t,fun _ e=>nomatch e⟩
 | ref p =>
   cases r
   rcases ty with ⟨rfl,xs,hq⟩ | ⟨rfl,o,hk,hc,hd⟩ | ⟨rfl,hk⟩ | ⟨rfl,S,n,hk⟩
   . obtain ⟨its,_,pl,_⟩:=I.list hq
     refine ⟨pl.isList.typeIs,fun a e=>?_⟩
     cases e
     obtain ⟨o,n,e,c,hd,_⟩:=pl
     exact ⟨o,e,hd⟩
   . refine ⟨⟨o,I.kIn p o hk,hc⟩,fun a e=>?_⟩
     cases e
     exact ⟨o,I.kIn _ o hk,hd⟩
   . have z:∃ o,s.heap.get? p = some o/\o.ExactDict:=by
      rcases hk with ⟨kvs,hk⟩ | ⟨kvs,hk⟩
      . obtain ⟨_,_,_,_,o,_,_,e,ex,_⟩:=I.hok p _ hk
        exact ⟨o,e,ex⟩
      . obtain ⟨_,_,_,_,o,_,_,e,ex,_⟩:=I.hok p _ hk
        exact ⟨o,e,ex⟩
     obtain ⟨o,e,ex⟩:=z
     refine ⟨⟨o,e,ex.1⟩,fun a e2=>?_⟩
     cases e2
     exact ⟨o,e,ex.2.1⟩
   . obtain ⟨o,_,_,_,e,ex,_⟩:=I.hok p _ hk
     refine ⟨⟨o,e,ex.1⟩,fun a e2=>?_⟩
     cases e2
     exact ⟨o,e,ex.2.1⟩
 | _=>exact False.elim ty
noncomputable def tBM (K:PySem.W.Frag) (T:String) (r:V->List V->Hp->VK->Prop) (to:TE) (t:TA):TE:=fun σ H Q=>to σ H fun x H1=>tyV K T x H1/\t σ H1 fun xs H2=>r x xs H2 Q
variable {o e:Expr} {es:List Expr} {to:TE} {t:TA} {name:Str} {apos cpos:Pos} {T id:String} {r:V->List V->Hp->VK->Prop}
theorem EF (pa:PlainAttrs T) (slot:Slot T name id) (hty:typeOf (.builtin id) = pure (.type "method_descriptor")) (hm:MtR X id r) (ho:PE X o to) (ha:PA X (e::es) t)
 (hbase:attributeBase o name X.env (eval o X.env) = eval o X.env:=by rfl)
 (hfew:((backTo cpos (starEach (e::es) X.env)).all (fun x=>!x.1) && (backToKw cpos (keywordEach [] X.env)).all (fun x=>x.1.isSome)
   && decide ((e::es).length+([]:List Keyword).length+(if ([]:List Keyword).isEmpty then 0 else 1) < 30)) = true:=by rfl)
 (hline:(apos.endLine == cpos.line) = true:=by rfl) (hs:starEach (e::es) X.env = (false,eval e X.env)::starEach es X.env:=by rfl) (hplain:(backTo cpos (starEach es X.env)).any (·.1) = false:=by rfl) :
 PE X (.Call (.Attribute o name apos) (e::es) [] cpos) (tBM X.K T r to t):=by
 intro pins s σ H Q I h
 refine wpAny_Call_method_late hbase hfew hline rfl (thn (ho pins s σ H _ I h) fun v s1 ⟨x,H1,I1,r1,ty,q1⟩=>?_)
 obtain ⟨h1,h2⟩:=FX I1 r1 ty
 refine ⟨T,id,pa,slot,hty,h1,h2,?_⟩
 have hA:=ha cpos pins s1 σ H1 _ I1 q1
 rw [hs] at hA ⊢
 refine Calls.callWith_builtin (by show (false || (backTo cpos (starEach es X.env)).any (·.1)) = false;rw [hplain]<;>rfl) (Calls.evalArgs_plain ?_)
 exact thn hA fun us s2 ⟨vs,H2,I2,r2,q2⟩=>hm pins s2 σ H2 x vs v us Q I2 r1 r2 q2
/- xs.append(e),list.index on a module's tuple .. are MtR facts of 06m -/
end
end L2
namespace L2
open PySem PySem.Spec PyProof.Rows
noncomputable def MtM (X:Cx) (id:String) (r:V->List V->Hp->VK->Prop):Prop :=
 ∀ (pins:List (Addr × Obj)) (s:Shared) (σ:St) (H:Hp) (x:V) (xs:List V) (v:Value) (us:List Value) (Q:VK),Inv X pins σ H s->RelV x v->Vals xs us->r x xs H Q ->
  wpAny (model X.prog X.w) X.A (call (.builtin id) (v::us)) (EP X pins σ Q) X.xe s
theorem Vals.one:∀ {x:V} {us:List Value},Vals [x] us->∃ u,us = [u]/\RelV x u
 | _,_,.cons r .nil=>⟨_,rfl,r⟩
theorem Vals.two:∀ {x y:V} {us:List Value},Vals [x,y] us->∃ u v,us = [u,v]/\RelV x u/\RelV y v
 | _,_,_,.cons r (.cons q .nil)=>⟨_,_,rfl,r,q⟩
theorem Vals.zero:∀ {us:List Value},Vals [] us->us = []
 | _,.nil=>rfl
theorem Vals.dropLast {xs:List V} {us:List Value} (h:Vals xs us):Vals xs.dropLast us.dropLast:=by
 induction h with
 | nil=>exact .nil
 | cons r t ih =>
   cases t with
   | nil=>exact .nil
   | cons q t'=>exact .cons r ih
theorem Vals.eraseIdx:∀ {xs:List V} {us:List Value} (i:Nat),Vals xs us->Vals (xs.eraseIdx i) (us.eraseIdx i)
 | _,_,_,.nil=>.nil
 | _,_,0,.cons _ t=>t
 | _,_,i+1,.cons r t=>.cons r (Vals.eraseIdx i t)
theorem Vals.reverse {xs:List V} {us:List Value} (h:Vals xs us):Vals xs.reverse us.reverse:=by
 induction h with
 | nil=>exact .nil
 | cons r t ih=>rw [BN,BN];exact Vals.append ih (.cons r .nil)
section
variable {X:Cx} {pins:List (Addr × Obj)} {σ:St} {H:Hp} {s:Shared} {l b:Addr} {xs ys zs:List V}
theorem Inv.lset {its its':List Value} {n:Nat} {f:Array Value->Array Value} {t':Nat} (I:Inv X pins σ H s) (hH:H l = some (.lst xs))
 (e:s.heap.get? l = some { cls:=.type "list",data:=.seq its.toArray n }) (hf:f its.toArray = its'.toArray) (hv:Vals ys its') (hz:ys.length<=sizeLine) :
 Inv X pins σ (upd H l (.lst ys)) { s with heap:=s.heap.update l (Obj.mapSeq f),toks:=t' }:=by
 have q:=PySem.IsL.update e f
 rw [hf] at q
 refine I.write (x:=l) (e:=l) (by rw [hH];exact trivial) (.inl rfl) (fun b' u hb hu=>(fe s.heap (Obj.mapSeq f) (Ne.symm hb)).trans hu) ⟨_,q⟩ ?_
 exact ⟨hz,its',_,hv,q⟩
theorem Inv.lnew {its:List Value} {t':Nat} (I:Inv X pins σ H s) (hv:Vals ys its) (hz:ys.length<=sizeLine) :
 Inv X pins σ (upd H s.heap.objs.size (.lst ys)) { s with heap:=s.heap.push { cls:=.type "list",data:=.seq its.toArray },toks:=t' } :=
 I.laid (fun _ _ q=>ah _ q) (ay _) ⟨hz,its,0,hv,aD _ rfl⟩
theorem Inv.fresh (I:Inv X pins σ H s):H s.heap.objs.size = none:=I.hok.fresh (ay _)
theorem Inv.lstM (I:Inv X pins σ H s) (hH:H l = some (.lst xs)):xs.length<=sizeLine/\∃ (its:List Value) (n:Nat),Vals xs its/\xs.length = its.length/\s.heap.get? l = some { cls:=.type "list",data:=.seq its.toArray n }:=by
 obtain ⟨z,its,n,r,e⟩:=I.hok l _ hH
 exact ⟨z,its,n,r,r.length,e⟩
end
section
variable {X:Cx}
noncomputable def Dq:V->List V->Hp->VK->Prop:=fun x vs H Q=>∃ l xs y,x = .ref l/\vs = [y]/\H l = some (.lst xs)/\xs.length < sizeLine/\Q .non (upd H l (.lst (xs++[y])))
theorem kg:MtM X "list.append" Dq:=by
 intro pins s σ H x vs v us Q I rx rv h
 obtain ⟨l,xs,y,rfl,rfl,hH,hz,q⟩:=h
 cases rx
 obtain ⟨u,rfl,ru⟩:=rv.one
 obtain ⟨z,its,n,r,hl,e⟩:=I.lstM hH
 refine call_meets F.slot_list_append ⟨_,e,rfl⟩ F.entry_list_append (F.args_list_append_2 _ _) (PySem.list_append l its.toArray n u (by rw [aG];omega)) ⟨e,?_⟩
 refine ⟨.non,_,I.lset (its':=its++[u]) hH e (by simp) (r.append (.cons ru .nil)) ?_,rfl,q⟩
 rw [az,cb]
 omega
end
section
variable {prog:Program} {w:World} {A:Around} {E:Value->Shared->Prop} {s:Shared}
end
section
variable {X:Cx}
end
end L2
namespace Att
open PySem PySem.W PySem.Calls PyProof.Rows
theorem kR {P:Params} {h:Heap}:∀ (ns:List Int) (vs:List Value),WellAll P h vs (ns.map WData.int)->IntsAre vs ns:=by
 intro ns
 induction ns with
 | nil =>
   intro vs w
   rw [kK] at w
   cases w
   exact .nil
 | cons n ns ih =>
   intro vs w
   rw [aI] at w
   cases w with
   | cons a b =>
     cases a
     exact .cons _ _ (ih _ b)
theorem xw {l:OpenLaw} {n:Nat} (hn:l.most = some n) {P:Params} {h:Heap} {args:List WData} {vals:List Value}
 (hpre:l.row.toRowW.claim.pre args = true) (hwl:WellAll P h vals args) :
 ∃ a vs ns,vals = [Value.ref a]/\args = [WData.list (ns.map WData.int)]/\h.get? a = some { cls:=.type "list",data:=.seq vs.toArray }/\IntsAre vs ns/\ns.length<=n:=by
 have hsh:WShape.hasAll [] args [.list .int] = true:=(pre_splitW hpre).1
 have hc:l.pre.holds [] { args:=args } = true:=(pre_splitW hpre).2
 obtain ⟨d,r,rfl,h1,h2⟩:=hasAllW_cons hsh
 obtain rfl:=hasAllW_nil h2
 obtain ⟨xs,rfl,h3⟩:=hasW_list h1
 obtain ⟨ns,rfl⟩:=items_int h3
 have hlen:ns.length<=n:=by
  unfold OpenLaw.pre at hc
  have h4:(WTm.not (.lt (.lit (.int (n:Int))) (.len (.arg 0)))).holds [] { args:=[.list (ns.map .int)] } = true:=by
   have h4:=(holds_andW hc).1
   rw [hn] at h4
   exact h4
  have h5:=condW_of h4 (w_not (w_lt w_lit (w_len_list (w_arg rfl))))
  rw [aj] at h5
  refine Nat.le_of_not_lt fun q=>?_
  have q':(n:Int) < ((ns.length:Nat):Int):=by omega
  first
   | (rw [decide_eq_true q'] at h5;exact absurd h5 (by decide))
   | (simp at h5;omega)
 cases hwl with
 | cons w1 w2 =>
   cases w2
   cases w1 with
   | list ho hall=>exact ⟨_,_,ns,rfl,rfl,ho,kR ns _ hall,hlen⟩
theorem xA (l:OpenLaw) (args:List WData):l.row.toRowW.claim.post args (.bool true) args = true :=
 postW_of (r:=l.row.toRowW) (X:=(true == true))
  (show WShape.has [] (.bool true) .bool = true by first | rfl | decide | simp [WShape.has,WShape.arms,WShape.armsAll])
  (show (WTm.eq .res (.lit (.bool true))).value [] { args:=args,res:=some (.bool true),after:=args } = some (.bool (true == true)) from w_eq_bool (w_res rfl) w_lit) rfl
theorem attach_call {l:OpenLaw} {n:Nat} {q:Program} {loose:List Str} {XP:(Str->Option Value)->Heap->Prop} {YP:World->Heap->Prop} {d:DefRec}
 (hn:l.most = some n) (hdf:d.params.defaults = [])
 (call:∀ (w:World) (s₀ s₁:Shared) (mg mb:Str->Option Value) (fa:Addr) (o:Obj) (pm cd doc:Value) (a:Addr) (vs:List Value) (ns:List Int),
   Ground q loose [] XP w s₀ mg mb s₁.heap->YP w s₁.heap ->
   s₁.heap.get? fa = some o->o.data = .func (docDef d.name d.params d.body d.scope pm cd doc)->s₁.heap.CodeRec cd d.name->mg d.name = some (.ref fa) ->
   s₁.heap.get? a = some { cls:=.type "list",data:=.seq vs.toArray }->IntsAre vs ns->ns.length<=n->s₁.gens = #[] ->
   codeAny (model l.prog w) callerA (.call (.ref fa) ⟨[.ref a],[]⟩) (fun r s'=>r = .ok (.ret (.bool true))/\OldK s₁.heap s'.heap/\s'.os = s₁.os/\AllBare s'.gens) s₁) :
 WalkO q loose XP YP l.row.toRowW d [] (fun f vs=>PySem.call f vs):=by
 intro w s₀ s₁ mg mb G Y fa o pm cd doc dV kV ho hd hcd hD hmg hg args vals as hpre hlay hrd hwl hlo
 obtain rfl:dV = .none:=Dflts.none hD hdf
 obtain rfl:kV = .none:=Dflts.noKw hD
 obtain ⟨a,vs,ns,rfl,rfl,hobj,hints,hlen⟩:=xw hn hpre hwl
 refine enter_call (gJ (call w s₀ s₁ mg mb fa o pm cd doc a vs ns G Y ho (fd_plain hd) hcd hmg hobj hints hlen hg) fun r s' hq=>?_)
 obtain ⟨rfl,h2,h3,h4⟩:=hq
 exact ⟨.inl ⟨.bool true,.bool true,[],rfl,fun _=>rfl,.bool true,xA l _,fun _=>⟨List.Pairwise.nil,fun _ hm=>(nomatch hm)⟩⟩,h2,h3,h4⟩
section
variable {prog:Program} {w:World} {A:Around} {E:Value->Shared->Prop} {s:Shared} {K:Frag}
noncomputable def ledger (h:Heap) (L d:Addr):List (Addr × Obj):=(List.range h.objs.size).filterMap fun a=>if a = L\/a = d then none else (h.get? a).map fun o=>(a,o)
end
end Att
namespace L2
open PySem PySem.Spec PyProof.Rows
theorem jT:∀ {vs:List Value} {ns:List Int},IntsAre vs ns->Vals (ns.map V.int) vs
 | _,_,.nil=>.nil
 | _,_,.cons n t h=>.cons ⟨t,rfl⟩ (jT h)
noncomputable def IJ (H:Hp):Prop:=∀ b,H b = none\/∃ o xs,H b = some (.frz o (.lst xs))
theorem AS {P:Program} {w:World} {K:PySem.W.Frag} {mg mb:Str->Option Value} {CX:CXT} {k:Nat} {fa a:Addr} {fd:FuncData} {x:Str} {sp:Sp} {s₁:Shared} {vs:List Value} {ns:List Int}
 (KX:K.In s₁.heap) (hns:s₁.heap.Ns mainGlobals mg) (hb:s₁.heap.Ns builtinsNs mb) (hbb:∀ x:Str,x≠"__name__"->mb x = bootBuiltins x) (hlim:s₁.heap.NoLimit) (hg:s₁.gens = #[])
 (ha:s₁.heap.get? a = some { cls:=.type "list",data:=.seq vs.toArray }) (hi:IntsAre vs ns) (hl:ns.length<=sizeLine) (hr:eJ k callerA)
 (F:∀ base:Heap,K.In base->base.Ns mainGlobals mg->fN P w K mg base CX k fa fd [x] sp) (hbind:∀ (s:Shared) (u:Value),BindsTo s fd ⟨[u],[]⟩ [(x,u)])
 (hsp:∀ H:Hp,IJ H->SqL K H a (ns.map V.int)->sp [.ref a] H (fun v _=>v = .bl true) fun _ _ _=>False)
 (hCX:∀ H e s',CX [] H s₁ (fun _ _ _=>False) e s'->False) :
 codeAny (model P w) callerA (.call (.ref fa) ⟨[.ref a],[]⟩) (fun r s'=>r = .ok (.ret (.bool true))/\OldK s₁.heap s'.heap/\s'.os = s₁.os/\AllBare s'.gens) s₁:=by
 have rv:=jT hi
 have lenV:=hi.length
 -- from an abstract heap in which nothing but the script may be tracked
 have core:∀ H:Hp,IJ H->SqL K H a (ns.map V.int)->HOk P w H s₁.heap->(∀ b,H b≠none->b = a)->(H a≠none->K.lookup a = none) ->
  codeAny (model P w) callerA (.call (.ref fa) ⟨[.ref a],[]⟩) (fun r s'=>r = .ok (.ret (.bool true))/\OldK s₁.heap s'.heap/\s'.os = s₁.os/\AllBare s'.gens) s₁:=by
  intro H hO hS hok hA hK
  have base_of:∀ {b:Addr} {o:Obj},s₁.heap.get? b = some o->H b = none->(jf s₁.heap H).get? b = some o:=fun e n=>sD e n
  have noA:∀ {b:Addr} {o:Obj} {es:Array DictEntry} {ep:Nat},s₁.heap.get? b = some o->o.data = .dict es ep->H b = none:=fun {b o es ep} e d=>by
   cases q:H b with
   | none=>rfl
   | some u =>
     have e':b = a:=hA b (by rw [q];simp)
     subst e'
     rw [ha] at e;cases e
     have d':Data.seq vs.toArray _ = Data.dict es ep:=d
     cases d'
  have nsK:∀ {b:Addr} {m:Str->Option Value},s₁.heap.Ns b m->(jf s₁.heap H).Ns b m:=fun {b m} ⟨o,es,ep,e,d,r⟩=>⟨o,es,ep,base_of e (noA e d),d,r⟩
  have hKb:K.In (jf s₁.heap H):=fun b o e=>base_of (KX b o e) (by
   cases q:H b with
   | none=>rfl
   | some u =>
     have e':b = a:=hA b (by rw [q];simp)
     subst e'
     rw [hK (by rw [q];simp)] at e;cases e)
  have hM:Mod K mg (jf s₁.heap H):=⟨hKb,nsK hns,⟨mb,nsK hb,hbb⟩,let ⟨mc,h1,h2⟩:=hlim;⟨mc,nsK h1,h2⟩⟩
  have e0:nu P w K mg (jf s₁.heap H) callerA [] s₁ H:=⟨rfl,hM,fun b o e=>vz e,uJ (oO _ _),trivial,fun b hb=>absurd (show b∈([]:List Addr) from hb) (by simp),hok,.of_eq hg⟩
  refine gJ ((F _ hKb (nsK hns)).run callerA [] s₁ H ⟨[.ref a],[]⟩ [.ref a] [.ref a] _ _ hr e0 (hbind s₁ (.ref a)) (.cons rfl .nil) (hsp H hO hS)) fun r s' h=>?_
  cases r with
  | error e=>exact (hCX H e s' h).elim
  | ok fl =>
    cases fl with
    | next=>exact False.elim h
    | brk=>exact False.elim h
    | cont=>exact False.elim h
    | ret u =>
      obtain ⟨v,H',os,bare,un,hok',r',q⟩:=h
      have q':v = .bl true:=q
      subst q'
      obtain rfl:u = Value.bool true:=r'
      refine ⟨rfl,OldK.of_keep fun b o e=>?_,os,bare⟩
      cases q:H b with
      | none=>exact un.keep b o e q (by intro z;exact absurd (show b∈([]:List Addr) from z) (by simp)) (by simp)
      | some u =>
        rcases hO b with z | ⟨ob,xs,z⟩
        . rw [q] at z;cases z
        . have z2:=un.frzs b ob _ z
          obtain ⟨e1,_⟩:=hok b _ z
          obtain ⟨e2,_⟩:=hok' b _ z2
          rw [e] at e1;cases e1
          exact e2
 cases hk:K.lookup a with
 | some o =>
   -- the script is one of the module's own objects
   have e:=KX a o hk
   rw [ha] at e
   cases e
   refine core (fun _=>none) (fun _=>.inl rfl) (.inr ⟨_,vs.toArray,_,hk,rfl,rfl,rfl,by rw [aG,lenV];exact hl,by simpa using rv⟩) (fun b u z=>by have z':(none:Option HO) = some u:=z;cases z') (fun b z=>absurd rfl z) fun z=>absurd rfl z
 | none =>
   refine core (fun b=>if b = a then some (.frz { cls:=.type "list",data:=.seq vs.toArray } (.lst (ns.map V.int))) else none) (fun b=>?_) (.inl (.inr ⟨{ cls:=.type "list",data:=.seq vs.toArray },if_pos rfl⟩)) (fun b u z=>?_) (fun b z=>?_) fun _=>hk
   . by_cases hb:b = a
     . exact .inr ⟨_,_,if_pos hb⟩
     . exact .inl (if_neg hb)
   . by_cases hb:b = a
     . have z':=(if_pos hb).symm.trans z
       cases z'
       subst hb
       exact ⟨ha,by rw [aj];exact hl,vs,_,rv,ha⟩
     . have z':=(if_neg hb).symm.trans z
       cases z'
   . by_cases hb:b = a
     . exact hb
     . exact absurd (if_neg hb) z
end L2
namespace L2
open PySem PySem.Spec PyProof.Rows
abbrev KOf {K:PySem.W.Frag} {h:Heap} (_:K.In h):PySem.W.Frag:=K
theorem walk_of {l:PySem.W.OpenLaw} {n k:Nat} {q:Program} {loose:List Str} {XP:(Str->Option Value)->Heap->Prop} {YP:World->Heap->Prop} {d:DefRec} {K:Params->PySem.W.Frag} {CX:World->CXT} {sp:World->Sp} {x:Str}
 (hn:l.most = some n) (hn2:n<=sizeLine) (hdf:d.params.defaults = []) (hr:eJ k callerA)
 (hY:∀ (w:World) (h:Heap),YP w h->(K w.params).In h)
 (F:∀ (w:World) (mg:Str->Option Value) (fa:Addr) (h:Heap),(K w.params).In h->h.Ns mainGlobals mg->mg d.name = some (.ref fa) ->
   ∃ fd:FuncData,(∀ (s:Shared) (u:Value),BindsTo s fd ⟨[u],[]⟩ [(x,u)]) /\
    ∀ base:Heap,(K w.params).In base->base.Ns mainGlobals mg->fN l.prog w (K w.params) mg base (CX w) k fa fd [x] (sp w))
 (hsp:∀ (w:World) (H:Hp) (a:Addr) (ns:List Int),ns.length<=n->IJ H->SqL (K w.params) H a (ns.map V.int)->sp w [.ref a] H (fun v _=>v = .bl true) fun _ _ _=>False)
 (hCX:∀ (w:World) (H:Hp) (s:Shared) (e:Value) (s':Shared),CX w [] H s (fun _ _ _=>False) e s'->False) :
 PySem.W.WalkO q loose XP YP l.row.toRowW d [] (fun f vs=>PySem.call f vs):=by
 refine Att.attach_call hn hdf fun w s₀ s₁ mg mb fa o pm cd doc a vs ns G Y ho hd hcd hmg hobj hints hlen hg=>?_
 have KX:=hY w _ Y
 obtain ⟨fd,hb,hF⟩:=F w mg fa _ KX G.T.g hmg
 exact AS KX G.T.g G.T.b G.T.builtins G.T.nolimit hg hobj hints (bK hlen hn2) hr hF hb (fun H hO hS=>hsp w H a ns hlen hO hS) fun H e s'=>hCX w H s₁ e s'
end L2
/- THE LAST THEOREM (shape;LID,My.* are yours):
 My.Adr: a structure of the addresses that your layer names (classes,functions);My.Txt K t: a structure (Prop) of the equations over K;
 My.txt_mk:{K} {implicit addresses ..} (e1:nsIn K mainGlobals "law" = some (some (.ref f))) (e2:K.lookup f = some ⟨oc,od,.func (fnOf "law" "law" params body scope dV kV doc pm an cdv ct),sl⟩) (e3:codeIn K cdv "law" = true) .. : ∃ t,My.Txt K t
set_option maxRecDepth 100000 in
set_option maxHeartbeats 0 in
theorem PySem.Challenge.cw_LID_holds : PySem.Challenge.rw_LID.Holds := by
 w_on;o_law;k_head;(case hw=>w_witness2)
 k_fill
 refine L2.walk_of (l:=PySem.Challenge.rw_LID) (n:=63) (k:=40) (x:="script") (CX:=fun w=>..) (sp:=fun _=>My.sp_law) rfl (by decide) rfl ⟨rfl,by decide,by decide⟩ (fun w h Y=>PySem.W.kIn_of Y) ?F ?S ?C
 case F =>
  intro w mg fa h KX G hmg
  have T:∃ t,My.Txt (L2.KOf KX) t:=by
   dsimp only [L2.KOf]                          -- K must stand as «<heap const> w.params» for k_is
   refine' My.txt_mk ?e1 ?e2 ?e3 ..
   (case e1=>PySem.W.k_is)                    -- in the order: a name->its address->its object->its parts
   (case e2=>PySem.W.k_is)
   ..
  obtain ⟨t,T⟩:=T
  have e0:=hmg.symm.trans (PySem.W.mg_of KX G T.law)
  cases e0                                       -- fa is the law's own address
  exact ⟨_,fun s u=>.of_eq rfl,fun base kb nb=>My.law_fn T kb nb⟩     -- if «.of_eq rfl» comes too early: refine' ⟨_,?b,fun base kb nb=>My.law_fn T kb nb⟩;exact fun s u=>.of_eq rfl
 case S=>exact fun w H a ns hl hO hS=>..
 case C=>exact ..
(the tactic k_is has no namespace: write k_is) -/
namespace L2
open PySem PySem.Spec PyProof.Rows
noncomputable def bB (s:Stmt):Arguments:=match s with
 | .FunctionDef _ a _ _ _ _ _ _ _ _=>a
 | _=>{ posonlyargs:=[],args:=[],vararg:=none,kwonlyargs:=[],kw_defaults:=[],kwarg:=none,defaults:=[] }
noncomputable def aJ (s:Stmt):List Stmt:=match s with
 | .FunctionDef _ _ b _ _ _ _ _ _ _=>b
 | _=>[]
noncomputable def au (s:Stmt):Scope:=match s with
 | .FunctionDef _ _ _ _ _ _ sc _ _ _=>sc
 | _=>{ kind:=.function,names:=[],isGenerator:=false,isCoroutine:=false }
abbrev CX0:CXT:=fun _ _ _ _ _ _=>False
abbrev E0:XK:=fun _ _ _=>False
theorem EG {X:Cx}:Passes CX0 X E0:=fun _ _ _ _ _ _ _ h=>h.elim
structure Fun (K:PySem.W.Frag) (x qual:Str) (st:Stmt) (f:Addr) (fd:FuncData):Prop where
 ex:∃ (oc:Value) (od:Option Addr) (kV doc pm:Value) (an:Option Addr) (cdv ct:Value) (osl:Array (Option Value)),
  fd = PySem.W.fnOf x qual (bB st) (aJ st) (au st) .none kV doc pm an cdv ct/\K.lookup f = some ⟨oc,od,.func fd,osl⟩/\PySem.W.codeIn K cdv qual = true
 kp:PySem.W.keepIn K (.ref f) = true
section
variable {P:Program} {w:World} {K:PySem.W.Frag} {mg:Str->Option Value} {base:Heap}
theorem Fun.ok {x qual:Str} {st:Stmt} {f:Addr} {fd:FuncData} {N ps:List Str} {k:Nat} {sp:Sp} (F:Fun K x qual st f fd) (S:bx N ps (au st)) (len:∀ vs H Q E,sp vs H Q E->vs.length = ps.length)
 (hbody:∀ (cdv:Value) (A:Around) (outer:List Env) (s:Shared) (H:Hp) (vs:List V) (Q:VK) (E:XK),eJ k (A.deeper (envOfC qual (au st) s.heap.objs.size f cdv))->sp vs H Q E ->
   ∃ t,PSs (kS CX0 P w K mg base N qual (au st) f cdv A outer s H E).nox (aJ st) t/\t { nx:=fun _ H'=>Q .non H',rt:=Q } (start N vs) H):fN P w K mg base CX0 (k+1) f fd ps sp:=by
 obtain ⟨oc,od,kV,doc,pm,an,cdv,ct,osl,rfl,lk,hcd⟩:=F.ex
 refine ET lk hcd S len fun A outer s H vs Q E hr hsp=>?_
 obtain ⟨t,h,q⟩:=hbody cdv A outer s H vs Q E hr hsp
 exact ⟨t,h.nox,q⟩
theorem Fun.binds {x qual:Str} {st:Stmt} {f:Addr} {fd:FuncData} {ps:List Str} (F:Fun K x qual st f fd)
 (h:∀ (kV doc pm:Value) (an:Option Addr) (cdv ct:Value) (us:List Value),us.length = ps.length->bindArgs (PySem.W.fnOf x qual (bB st) (aJ st) (au st) .none kV doc pm an cdv ct) ⟨us,[]⟩ = pure (ps.zip us)):Binds K fd ps []:=by
 obtain ⟨oc,od,kV,doc,pm,an,cdv,ct,osl,rfl,lk,hcd⟩:=F.ex
 exact .all (h kV doc pm an cdv ct)
theorem cD {x qual:Str} {st:Stmt} {f:Addr} {oc:Value} {od an:Option Addr} {osl:Array (Option Value)} {kV doc pm cdv ct:Value} (l:K.lookup f = some ⟨oc,od,.func (PySem.W.fnOf x qual (bB st) (aJ st) (au st) .none kV doc pm an cdv ct),osl⟩)
 (c:PySem.W.codeIn K cdv qual = true) (k:PySem.W.keepIn K (.ref f) = true):Fun K x qual st f (PySem.W.fnOf x qual (bB st) (aJ st) (au st) .none kV doc pm an cdv ct):=⟨⟨oc,od,kV,doc,pm,an,cdv,ct,osl,rfl,l,c⟩,k⟩
end
section
variable {X:Cx}
theorem pv (i:Nat) {x:Str} {pos:Pos} (hN:X.N[i]? = some x:=by rfl) (hv:Vis X.env.scope x:=by first | exact Or.inl rfl | exact Or.inr (Or.inl rfl) | exact Or.inr (Or.inr rfl)) (hd:(x == ("__debug__":Str)) = false:=by decide)
 (hcd:(x == ("__classdict__":Str)) = false:=by decide):PE X (.Name x pos) (Gb i):=je hN hv hd hcd
end
theorem JR {A B:Prop} (h:B):if false = true then A else B:=by
 rw [if_neg ai]
 exact h
theorem JQ {A B:Prop} (h:A):if true = true then A else B:=by
 rw [if_pos rfl]
 exact h
noncomputable def dZ (H H':Hp):Prop:=∀ b o,H b = some o->H' b = some o
theorem dZ.refl (H:Hp):dZ H H:=fun _ _ h=>h
theorem dZ.trans {H H1 H2:Hp} (a:dZ H H1) (b:dZ H1 H2):dZ H H2:=fun c o h=>b c o (a c o h)
theorem dZ.free {H H':Hp} (e:dZ H H') {l:Addr} (h:H' l = Option.none):H l = Option.none:=by
 cases q:H l with
 | none=>rfl
 | some o =>
   rw [e l o q] at h
   cases h
theorem dZ.seq {K:PySem.W.Frag} {H H':Hp} {a:Addr} {xs:List V} (e:dZ H H') (h:SqL K H a xs):SqL K H' a xs:=by
 rcases h with (h | ⟨o,h⟩) | h
 . exact .inl (.inl (e _ _ h))
 . exact .inl (.inr ⟨o,e _ _ h⟩)
 . exact .inr h
end L2
end
section
namespace L2
open PySem PySem.Spec PyProof.Rows
section
variable {κ:Type} [DecidableEq κ]
noncomputable def jU (kvs:List (κ × V)) (k:κ):Option V:=(kvs.find? fun kv=>decide (kv.1 = k)).map (·.2)
noncomputable def putK (kvs:List (κ × V)) (k:κ) (v:V):List (κ × V) :=
 if (kvs.any fun kv=>decide (kv.1 = k)) = true then kvs.map (fun kv=>if kv.1 = k then (kv.1,v) else kv) else kvs++[(k,v)]
noncomputable def EV (kvs:List (κ × V)) (k:κ):List (κ × V):=kvs.filter fun kv=>decide (kv.1≠k)
theorem lQ {p:κ × V} {r:List (κ × V)} {k:κ} (e:p.1 = k):jU (p::r) k = some p.2:=by simp [jU,eP,e]
theorem lR {p:κ × V} {r:List (κ × V)} {k:κ} (e:¬ p.1 = k):jU (p::r) k = jU r k:=by simp [jU,eP,e]
theorem qT (k:κ):∀ kvs:List (κ × V),(kvs.any fun kv=>decide (kv.1 = k)) = (jU kvs k).isSome
 | []=>rfl
 | p::r=>by
   rw [eF]
   by_cases e:p.1 = k
   . simp only [lQ e,decide_eq_true e,ff,Option.isSome_some]
   . rw [lR e,decide_eq_false e,qL];exact qT k r
theorem dN.isSome_eq {o:Option V} {u:Option Value} (r:dN o u):o.isSome = u.isSome:=by
 cases o with
 | none=>cases u with
   | none=>rfl
   | some _=>exact (show False from r).elim
 | some _=>cases u with
   | none=>exact (show False from r).elim
   | some _=>rfl
theorem dN.getD {o:Option V} {u:Option Value} {d:V} {d':Value} (r:dN o u) (rd:RelV d d'):RelV (o.getD d) (u.getD d'):=by
 cases o with
 | none=>cases u with
   | none=>exact rd
   | some _=>exact (show False from r).elim
 | some _=>cases u with
   | none=>exact (show False from r).elim
   | some _=>exact r
theorem KV.val {kvs:List (κ × V)} {vs:List (κ × Value)} (r:KV kvs vs) (k:κ):dN (jU kvs k) (valueAt vs k):=by
 unfold KV at r
 induction r with
 | nil=>exact True.intro
 | @cons p q ps qs h t ih =>
   obtain ⟨h1,h2⟩:=h
   by_cases e:p.1 = k
   . have e':q.1 = k:=h1.symm.trans e
     have b:valueAt (q::qs) k = some q.2:=by simp [valueAt,eP,e']
     rw [lQ e,b];exact h2
   . have e':¬ q.1 = k:=fun z=>e (h1.trans z)
     have b:valueAt (q::qs) k = valueAt qs k:=by simp [valueAt,eP,e']
     rw [lR e,b];exact ih
theorem KV.any {kvs:List (κ × V)} {vs:List (κ × Value)} (r:KV kvs vs) (k:κ):(kvs.any fun kv=>decide (kv.1 = k)) = vs.any fun kv=>decide (kv.1 = k):=by
 unfold KV at r
 induction r with
 | nil=>rfl
 | cons h t ih=>rw [eF,eF,ih,h.1]
theorem KV.repl {kvs:List (κ × V)} {vs:List (κ × Value)} (r:KV kvs vs) (k:κ) {y:V} {u:Value} (ry:RelV y u) :
 KV (kvs.map fun kv=>if kv.1 = k then (kv.1,y) else kv) (vs.map fun kv=>if kv.1 = k then (kv.1,u) else kv):=by
 unfold KV at r ⊢
 induction r with
 | nil=>exact .nil
 | @cons p q ps qs h t ih =>
   rw [aI,aI]
   refine .cons ?_ ih
   obtain ⟨h1,h2⟩:=h
   by_cases e:p.1 = k
   . rw [if_pos e,if_pos (h1.symm.trans e)];exact ⟨h1,ry⟩
   . rw [if_neg e,if_neg (fun z=>e (h1.trans z))];exact ⟨h1,h2⟩
theorem KV.put {kvs:List (κ × V)} {vs:List (κ × Value)} (r:KV kvs vs) (k:κ) {y:V} {u:Value} (ry:RelV y u):KV (putK kvs k y) (stored vs k u):=by
 unfold putK stored
 rw [r.any k]
 by_cases e:(vs.any fun kv=>decide (kv.1 = k)) = true
 . rw [if_pos e,if_pos e];exact r.repl k ry
 . rw [if_neg e,if_neg e];exact Paired.snoc r ⟨rfl,ry⟩
theorem KV.drop {kvs:List (κ × V)} {vs:List (κ × Value)} (r:KV kvs vs) (k:κ):KV (EV kvs k) (without vs k):=by
 unfold KV at r ⊢
 unfold EV without
 induction r with
 | nil=>exact .nil
 | @cons p q ps qs h t ih =>
   obtain ⟨h1,h2⟩:=h
   rw [lI,lI]
   by_cases e:p.1 = k
   . have a:¬ decide (p.1≠k) = true:=by simp [e]
     have b:¬ decide (q.1≠k) = true:=by simp [h1.symm.trans e]
     rw [if_neg a,if_neg b];exact ih
   . have e':¬ q.1 = k:=fun z=>e (h1.trans z)
     have a:decide (p.1≠k) = true:=by simp [e]
     have b:decide (q.1≠k) = true:=by simp [e']
     rw [if_pos a,if_pos b];exact .cons ⟨h1,h2⟩ ih
theorem KV.keys {kvs:List (κ × V)} {vs:List (κ × Value)} (r:KV kvs vs):kvs.map (·.1) = vs.map (·.1):=by
 unfold KV at r
 induction r with
 | nil=>rfl
 | cons h t ih=>rw [aI,aI,ih,h.1]
theorem KV.length {kvs:List (κ × V)} {vs:List (κ × Value)} (r:KV kvs vs):kvs.length = vs.length:=Paired.length r
end
abbrev KT (H:Hp):List (List Key × V)->List (List Key × Addr × Value)->Prop:=Paired fun p q=>p.1 = q.1/\H q.2.1 = some (.tup (p.1.map kV))/\RelV p.2 q.2.2
theorem KT.val {H:Hp} {kvs:List (List Key × V)} {xs:List (List Key × Addr × Value)} (r:KT H kvs xs) (k:List Key):dN (jU kvs k) ((atKey xs k).map (·.2)):=by
 induction r with
 | nil=>exact True.intro
 | @cons p q ps qs h t ih =>
   obtain ⟨h1,_,h2⟩:=h
   by_cases e:p.1 = k
   . have e':q.1 = k:=h1.symm.trans e
     have b:atKey (q::qs) k = some q.2:=by simp [atKey,eP,e']
     rw [lQ e,b];exact h2
   . have e':¬ q.1 = k:=fun z=>e (h1.trans z)
     have b:atKey (q::qs) k = atKey qs k:=by simp [atKey,eP,e']
     rw [lR e,b];exact ih
theorem KT.repl {H:Hp} {kvs:List (List Key × V)} {xs:List (List Key × Addr × Value)} (r:KT H kvs xs) (k:List Key) {y:V} {u:Value} (ry:RelV y u) :
 KT H (kvs.map fun kv=>if kv.1 = k then (kv.1,y) else kv) (xs.map (putAt k u)):=by
 induction r with
 | nil=>exact .nil
 | @cons p q ps qs h t ih =>
   rw [aI,aI]
   refine .cons ?_ ih
   obtain ⟨h1,h2,h3⟩:=h
   unfold putAt
   by_cases e:p.1 = k
   . rw [if_pos e,if_pos (h1.symm.trans e)];exact ⟨h1,h2,ry⟩
   . rw [if_neg e,if_neg (fun z=>e (h1.trans z))];exact ⟨h1,h2,h3⟩
theorem KT.put {H:Hp} {kvs:List (List Key × V)} {xs:List (List Key × Addr × Value)} (r:KT H kvs xs) (k:List Key) {b:Addr} {y:V} {u:Value} (hb:H b = some (.tup (k.map kV))) (ry:RelV y u) :
 KT H (putK kvs k y) (storedH xs k b u):=by
 have e:(kvs.any fun kv=>decide (kv.1 = k)) = (atKey xs k).isSome:=by
  rw [qT,(r.val k).isSome_eq,Option.isSome_map]
 unfold putK storedH
 rw [e]
 by_cases q:(atKey xs k).isSome = true
 . rw [if_pos q,if_pos q];exact r.repl k ry
 . rw [if_neg q,if_neg q];exact Paired.snoc r ⟨rfl,hb,ry⟩
theorem KT.keeps {H H':Hp} {kvs:List (List Key × V)} {xs:List (List Key × Addr × Value)} (r:KT H kvs xs) (ht:∀ b ys,H b = some (.tup ys)->H' b = some (.tup ys)):KT H' kvs xs :=
 Paired.mapP r fun _ _ z=>⟨z.1,ht _ _ z.2.1,z.2.2⟩
section
variable {P:Program} {w:World} {H:Hp} {h:Heap} {a:Addr}
end
noncomputable def DGet (H:Hp) (a:Addr) (y:V) (r:Option V):Prop :=
 (∃ kvs k,Rd H a (.dK kvs)/\y = kV k/\r = jU kvs k)\/∃ kvs k b,Rd H a (.dT kvs)/\y = .ref b/\H b = some (.tup (k.map kV))/\r = jU kvs k
noncomputable def Eu (H:Hp) (a:Addr) (y v:V) (H':Hp):Prop :=
 (∃ kvs k,H a = some (.dK kvs)/\y = kV k/\kvs.length < sizeLine/\H' = upd H a (.dK (putK kvs k v))) \/
 ∃ kvs k b,H a = some (.dT kvs)/\y = .ref b/\H b = some (.tup (k.map kV))/\kvs.length < sizeLine/\H' = upd H a (.dT (putK kvs k v))
theorem DGet.k {H:Hp} {a:Addr} {kvs:List (Key × V)} {k:Key} (e:H a = some (.dK kvs)):DGet H a (kV k) (jU kvs k):=.inl ⟨kvs,k,.inl e,rfl,rfl⟩
theorem DGet.t {H:Hp} {a b:Addr} {kvs:List (List Key × V)} {k:List Key} (e:H a = some (.dT kvs)) (eb:H b = some (.tup (k.map kV))):DGet H a (.ref b) (jU kvs k):=.inr ⟨kvs,k,b,.inl e,rfl,eb,rfl⟩
theorem Eu.k {H:Hp} {a:Addr} {kvs:List (Key × V)} {k:Key} {v:V} (e:H a = some (.dK kvs)) (hl:kvs.length < sizeLine):Eu H a (kV k) v (upd H a (.dK (putK kvs k v))):=.inl ⟨kvs,k,e,rfl,hl,rfl⟩
theorem Eu.t {H:Hp} {a b:Addr} {kvs:List (List Key × V)} {k:List Key} {v:V} (e:H a = some (.dT kvs)) (eb:H b = some (.tup (k.map kV))) (hl:kvs.length < sizeLine) :
 Eu H a (.ref b) v (upd H a (.dT (putK kvs k v))):=.inr ⟨kvs,k,b,e,rfl,eb,hl,rfl⟩
section
variable {X:Cx} {pins:List (Addr × Obj)} {σ:St} {H:Hp} {s:Shared} {a:Addr} {y v:V} {u r:Value} {o:Option V} {A:Around} {E:Value->Shared->Prop}
end
section
variable {X:Cx} {pins:List (Addr × Obj)} {σ:St} {H:Hp} {s:Shared} {a:Addr} {kvs:List (Key × V)} {k:Key} {u:Value} {A:Around} {E:Value->Shared->Prop}
end
section
variable {X:Cx} {o i e value:Expr} {pos pos' tpos:Pos} {td ty tv:TE}
end
section
variable {X:Cx} {pos:Pos}
end
structure M1 (X:Cx) (o:Expr) (m:Str) (apos:Pos) (e:Expr) (cpos:Pos):Prop where
 base:attributeBase o m X.env (eval o X.env) = eval o X.env
 few:((backTo cpos (starEach [e] X.env)).all (fun x=>!x.1) && (backToKw cpos (keywordEach [] X.env)).all (fun x=>x.1.isSome)
  && decide (([e]:List Expr).length+([]:List Keyword).length+(if ([]:List Keyword).isEmpty then 0 else 1) < 30)) = true
 line:(apos.endLine == cpos.line) = true
 trees:backTo cpos (starEach [e] X.env) = [(false,eval e X.env)]
structure M2 (X:Cx) (o:Expr) (m:Str) (apos:Pos) (e f:Expr) (cpos:Pos):Prop where
 base:attributeBase o m X.env (eval o X.env) = eval o X.env
 few:((backTo cpos (starEach [e,f] X.env)).all (fun x=>!x.1) && (backToKw cpos (keywordEach [] X.env)).all (fun x=>x.1.isSome)
  && decide (([e,f]:List Expr).length+([]:List Keyword).length+(if ([]:List Keyword).isEmpty then 0 else 1) < 30)) = true
 line:(apos.endLine == cpos.line) = true
 trees:backTo cpos (starEach [e,f] X.env) = [(false,eval e X.env),(false,eval f X.env)]
section
variable {X:Cx} {pins:List (Addr × Obj)} {σ:St} {H:Hp} {s:Shared} {a:Addr} {y d:V} {u r:Value} {o:Option V} {A:Around} {E:Value->Shared->Prop}
end
section
variable {X:Cx} {o e f:Expr} {apos cpos:Pos} {td ty tx:TE}
end
section
variable {X:Cx} {pins:List (Addr × Obj)} {σ:St} {H:Hp} {s:Shared} {a:Addr} {kvs:List (Key × V)} {A:Around} {E:Value->Shared->Prop}
end
section
variable {X:Cx} {pins:List (Addr × Obj)} {σ:St} {H:Hp} {s:Shared} {a:Addr} {y:V} {u:Value} {A:Around} {E:Value->Shared->Prop}
end
end L2
end
section
namespace L2
open PySem PySem.Spec PyProof.Rows
abbrev TU:=St->Hp->(St->Hp->Prop)->Prop
noncomputable def PU (X:Cx) (m:Sem Unit) (t:TU):Prop :=
 ∀ (pins:List (Addr × Obj)) (s:Shared) (σ:St) (H:Hp) (Q:St->Hp->Prop),Inv X pins σ H s->t σ H Q ->
  wpAny (model X.prog X.w) X.A m (fun _ s'=>∃ σ' H',Inv X pins σ' H' s'/\Q σ' H') X.xe s
noncomputable def PTs (X:Cx) (ifs:List Expr) (t:TT):Prop :=
 ∀ (pins:List (Addr × Obj)) (s:Shared) (σ:St) (H:Hp) (Q:Bool->Hp->Prop),Inv X pins σ H s->t σ H Q ->
  wpAny (model X.prog X.w) X.A (forIn ifs true fun c r=>if r = true then do let ok <- isTrue c X.env (eval c X.env);pure (ForInStep.yield ok) else pure (ForInStep.yield r)) (TP X pins σ Q) X.xe s
section
variable {X:Cx}
theorem Du:PTs X [] (fun _ H Q=>Q true H):=fun pins s σ H Q I h=>wpAny_tests_nil ⟨H,I,h⟩
theorem Dt {c:Expr} {t:TT} (hc:PT X c t):PTs X [c] t:=fun pins s σ H Q I h=>wpAny_tests_one (hc pins s σ H Q I h)
noncomputable def tLp (J:It) (g:TG) (tt:TT) (tb:TU):TU:=fun σ H Q=>∃ W:Nat->Nat->St->Hp->Prop,(∃ m,W 0 m σ H)/\∀ i m σ H,W i m σ H ->
 (J.stop i H/\Q σ H)\/(J.go i H/\∀ x H',J.yld i H x H'->g x σ H' fun σ2 H2=>tt σ2 H2 fun b H3 =>
   if b = true then tb σ2 H3 fun σ4 H4=>∃ m',m' < m/\W (i+1) m' σ4 H4 else ∃ m',m' < m/\W (i+1) m' σ2 H3)
theorem Kk {e tg:Expr} {d:Nat} {ifs:List Expr} {ip:Pos} {it:Addr} {acc:Value} {body:Sem Unit} {J:It} {fp:List Addr} {tn:Nat->Heap->Prop} {g:TG} {tt:TT} {tb:TU}
 (hx:X.xe = fun _ _=>False) (hc:X.calm = true)
 (hq:(Code.compLoop e d (.ref it) acc X.env).quiet = true)
 (hden:(model X.prog X.w).den (.compLoop e d (.ref it) acc X.env) = (compTurn e d (.ref it) acc X.env).onRaise (fun x=>do noteFrame x X.env;theTreesLotGoes x))
 (hund:X.A.under (.compLoop e d (.ref it) acc X.env) = X.A)
 (hturn:compTurn e d (.ref it) acc X.env = (do
   standAt ip
   match <- pyNext (.ref it) with
   | none=>pure (.done .next)
   | some v =>
     letOwnedTupleGo tg (.ref it) v
     assign tg X.env v
     let mut ok:=true
     for c in ifs do
      if ok then ok <- isTrue c X.env (eval c X.env)
     if ok then body
     again (.compLoop e d (.ref it) acc X.env)))
 (T:Turn X.prog X.w X.K tg J fp it tn) (hg:PG X tg g) (ht:PTs X ifs tt) (hb:PU X body tb) {R:Result->Shared->Prop}
 {pins:List (Addr × Obj)} {s:Shared} {σ:St} {H:Hp} {Q:St->Hp->Prop} (I:Inv X pins σ H s) (st:tn 0 s.heap) (f:∀ b∈fp,kx X pins H b) (h:tLp J g tt tb σ H Q)
 (hR:∀ s' σ' H',Inv X pins σ' H' s'->Q σ' H'->R (.ok .next) s'):codeAny (model X.prog X.w) X.A (.compLoop e d (.ref it) acc X.env) R s:=by
 obtain ⟨W,⟨m0,w0⟩,turn⟩:=h
 have stat:∀ {H':Hp},(∀ b∈fp,H' b = none)->∀ b∈fp,kx X pins H' b:=fun hn b hb=>⟨hn b hb,(f b hb).2⟩
 refine codeAny_loop hq (fun n s'=>∃ i σ' H',Inv X pins σ' H' s'/\tn i s'.heap/\(∀ b∈fp,H' b = none)/\W i n σ' H') ?_ m0 ⟨0,σ,H,I,st,fun b hb=>(f b hb).1,w0⟩
 rintro n s3 ⟨i,σ3,H3,I3,st3,fr3,w3⟩
 rw [hden,hund,hturn]
 refine wpAny_noted ?_
 have cut:∀ {α:Type} {m:Sem α} {Q:α->Shared->Prop} {s:Shared} {E':Value->Shared->Prop},wpAny (model X.prog X.w) X.A m Q X.xe s->wpAny (model X.prog X.w) X.A m Q E' s:=fun z=>by
  rw [hx] at z
  exact wpAny_noRaise z
 refine ag (yh (ag ?_))
 rcases turn i n σ3 H3 w3 with ⟨stop,qn⟩ | ⟨go,step⟩
 . refine cut (thn (T.done X rfl rfl rfl hc i pins s3 σ3 H3 X.xe I3 (stat fr3) st3 stop) fun r s4 ⟨hr,I4⟩=>?_)
   subst hr
   exact ar (hR s4 σ3 H3 I4 qn)
 . refine cut (thn (T.item X rfl rfl rfl hc i pins s3 σ3 H3 X.xe I3 (stat fr3) st3 go) fun r s4 ⟨u,hr,h4⟩=>?_)
   subst hr
   refine ag (cut (thn h4 fun _ s5 ⟨x,H5,I5,r5,y5,st5,fr5⟩=>?_))
   have I5':=I5.pinned (stat fr5) (T.obj _ _ st5)
   refine ag (cut (thn (hg _ s5 σ3 H5 x u _ I5' r5 (step x H5 y5)) fun _ s6 ⟨σ6,H6,I6,q6⟩=>?_))
   have again:∀ {σ7:St} {H7:Hp} {s7:Shared},Inv X (pins++ml fp s5.heap) σ7 H7 s7->(∃ m',m' < n/\W (i+1) m' σ7 H7)->∃ m,m < n/\∃ i σ' H',Inv X pins σ' H' s7/\tn i s7.heap/\(∀ b∈fp,H' b = none)/\W i m σ' H':=fun {σ7 H7 s7} I7 n7=>by
    obtain ⟨m',hm,w7⟩:=n7
    refine ⟨m',hm,i+1,σ7,H7,I7.unpinned,T.keep _ _ _ st5 fun b hb o e=>(I7.pin (b,o) (bz _ (bz _ (gU hb e)))).1,fun b hb=>?_,w7⟩
    obtain ⟨o,e,d⟩:=T.obj _ _ st5 b hb
    exact (I7.pin (b,o) (bz _ (bz _ (gU hb e)))).2.1
   refine ag (cut (thn (ht _ s6 σ6 H6 _ I6 q6) fun ok s7 ⟨H7,I7,q7⟩=>?_))
   cases ok with
   | false =>
     rw [if_neg ai] at q7
     exact ar ⟨rfl,again I7 q7⟩
   | true =>
     rw [if_pos rfl] at q7
     refine ag (cut (thn (hb _ s7 σ6 H7 _ I7 q7) fun _ s8 ⟨σ8,H8,I8,q8⟩=>?_))
     exact ar ⟨rfl,again I8 q8⟩
end
end L2
end
section
namespace L2
open PySem PySem.Spec PyProof.Rows
noncomputable def gG (env:Env):List (Str × NameKind)->List (Str × Addr)->List (Str × Addr)
 | [],cs=>cs
 | (n,k)::r,cs=>gG env r (if k == .free then (n,(env.cells.lookup n).getD 0)::cs else cs)
theorem vY {env:Env}:∀ (names:List (Str × NameKind)) (cs:List (Str × Addr)),(∀ x,(x,NameKind.free)∈names->∃ c,env.cells.lookup x = some c) ->
 (forIn names cs fun x r=>match x with | (name,kind)=>(do
   if (kind == NameKind.free) = true then do
    let y <- cellOf env name
    pure (ForInStep.yield ((name,y)::r))
   else pure (ForInStep.yield r):Sem (ForInStep (List (Str × Addr))))) = (pure (gG env names cs):Sem (List (Str × Addr)))
 | [],cs,_=>rfl
 | (n,k)::r,cs,h=>by
   have ih:=fun cs=>vY (env:=env) r cs fun x hx=>h x (av _ hx)
   rw [fR]
   by_cases hk:k = .free
   . subst hk
     obtain ⟨c,e⟩:=h n ak
     have e2:cellOf env n = pure c:=by unfold cellOf;rw [e]
     simp only [beq_self_eq_true,if_true,e2,pure_bind,gG,e,yx]
     exact ih _
   . have hb:(k == NameKind.free) = false:=by simpa using hk
     simp only [hb,ae,if_false,pure_bind,gG]
     exact ih _
theorem Il {env:Env} {scope:Scope} (h:∀ x,(x,NameKind.free)∈scope.names->∃ c,env.cells.lookup x = some c):closureFor scope env = pure (gG env scope.names []):=by
 have q:=vY (env:=env) scope.names [] h
 unfold closureFor
 rw [<- bind_pure (pure (gG env scope.names []):Sem _),<- q]
theorem qq {env:Env}:∀ (names:List (Str × NameKind)) (cs:List (Str × Addr)),(∀ x,(x,NameKind.free)∈names->∃ c,env.cells.lookup x = some c)->∀ p∈gG env names cs,p∈cs\/env.cells.lookup p.1 = some p.2
 | [],cs,_,p,hp=>.inl hp
 | (n,k)::r,cs,h,p,hp=>by
   unfold gG at hp
   have ih:=qq (env:=env) r _ (fun x hx=>h x (av _ hx)) p hp
   rcases ih with ih | ih
   . by_cases hk:k = .free
     . subst hk
       rw [if_pos (by simp)] at ih
       rcases aQ.mp ih with rfl | ih
       . obtain ⟨c,e⟩:=h n ak
         right
         rw [e];rfl
       . exact .inl ih
     . rw [if_neg (by simpa using hk)] at ih
       exact .inl ih
   . exact .inr ih
theorem qr {env:Env}:∀ (names:List (Str × NameKind)) (cs:List (Str × Addr)) (x:Str),((x,NameKind.free)∈names\/∃ c,(x,c)∈cs)->∃ c,(x,c)∈gG env names cs
 | [],cs,x,h=>by
   rcases h with h | h
   . cases h
   . exact h
 | (n,k)::r,cs,x,h=>by
   unfold gG
   refine qr (env:=env) r _ x ?_
   rcases h with h | ⟨c,h⟩
   . rcases aQ.mp h with e | h
     . cases e
       right
       rw [if_pos (by simp)]
       exact ⟨_,ak⟩
     . exact .inl h
   . right
     split
     . exact ⟨c,av _ h⟩
     . exact ⟨c,h⟩
theorem gq {α:Type}:∀ {l:List (Str × α)} {x:Str} {c:α},(x,c)∈l->∃ d,l.lookup x = some d
 | [],_,_,h=>by cases h
 | (y,d)::r,x,c,h=>by
   rw [fz]
   cases e:x == y with
   | true=>exact ⟨d,rfl⟩
   | false =>
     rcases aQ.mp h with q | q
     . cases q;simp at e
     . exact gq q
structure qE (X:Cx) (scope:Scope):Prop where
 kind:scope.kind = .function
 nocell:∀ y∈scope.names,y.2≠.cell
 names:∀ y∈scope.names,y.2 = .local->scope.names.lookup y.1 = some .local
 free:∀ x,(x,NameKind.free)∈scope.names->X.env.kindOf x = some .cell\/X.env.kindOf x = some .free
noncomputable def cxC (X:Cx) (scope:Scope) (cl:List (Str × Addr)) (C:Addr) (Nc:List Str) (s:Shared) (H:Hp) (fp:List Addr):Cx :=
 { X with N:=Nc,s₀:=s,H₀:=H,env:=compEnvC scope cl C X.env,outer:=X.stack,ex:=fp,fn:=fun _=>false,pn:=[],xe:=fun _ _=>False }
theorem fT {scope:Scope} {env:Env}:∀ (names:List (Str × NameKind)) (x:Str),
 (names.map fun (n,k)=>if (k == NameKind.free && env.scope.kind == .function && env.kindOf n == some .cell) then (n,NameKind.cell) else (n,k)).lookup x =
   (names.lookup x).map fun k=>if (k == NameKind.free && env.scope.kind == .function && env.kindOf x == some .cell) then NameKind.cell else k
 | [],x=>rfl
 | (n,k)::r,x=>by
   have ih:=fT (scope:=scope) (env:=env) r x
   rw [aI]
   cases hx:x == n with
   | true =>
     have e:x = n:=by simpa using hx
     subst e
     by_cases hc:(k == NameKind.free && env.scope.kind == .function && env.kindOf x == some .cell) = true
     . simp only [hc,if_true,fz,beq_self_eq_true,cM]
     . simp only [hc,if_false,fz,beq_self_eq_true,cM,ae]
   | false =>
     by_cases hc:(k == NameKind.free && env.scope.kind == .function && env.kindOf n == some .cell) = true
     . simp only [hc,if_true,fz,hx]
       exact ih
     . simp only [hc,if_false,fz,hx,ae]
       exact ih
theorem kq {scope:Scope} {env:Env} {cl:List (Str × Addr)} {C:Addr} (x:Str):(compEnvC scope cl C env).kindOf x =
 (scope.names.lookup x).map fun k=>if (k == NameKind.free && env.scope.kind == .function && env.kindOf x == some .cell) then NameKind.cell else k:=fT (scope:=scope) (env:=env) scope.names x
theorem nR {scope:Scope} {env:Env} {cl:List (Str × Addr)} {C:Addr} {x:Str} (nc:∀ y∈scope.names,y.2≠.cell) (h:(compEnvC scope cl C env).kindOf x = some .cell\/(compEnvC scope cl C env).kindOf x = some .free) :
 scope.names.lookup x = some .free:=by
 rw [kq] at h
 cases e:scope.names.lookup x with
 | none=>rw [e] at h;simp at h
 | some k =>
   rw [e] at h
   have hm:=PySem.mem_of_lookup e
   have:=nc _ hm
   simp only [cM] at h
   cases k<;>simp_all
theorem xK {X:Cx} {scope:Scope} {C:Addr} {Nc:List Str} {s:Shared} {h1:Heap} {t1:Nat} {H:Hp} {fp:List Addr} {pins:List (Addr × Obj)} {σ:St}
 (S:qE X scope) (I:Inv X pins σ H s) (hf:∀ b∈fp,kx X pins H b) (hfl:∀ b∈fp,b < s.heap.objs.size) (hC:C = s.heap.objs.size) (hns:h1.Ns C fun _=>none) (hk:∀ b o,s.heap.get? b = some o->h1.get? b = some o)
 (hN:∀ i x,i < X.N.length->Nc[i]? = some x->Vis scope x->X.N[i]? = some x/\scope.names.lookup x = some .free) (hl:X.N.length<=Nc.length) :
 Inv (cxC X scope (gG X.env scope.names []) C Nc s H fp) [] (σ++List.replicate (Nc.length - X.N.length) none) H { s with heap:=h1,toks:=t1 }:=by
 have hcl:∀ x,(x,NameKind.free)∈scope.names->∃ c,X.env.cells.lookup x = some c:=fun x hx=>I.ok.has x (S.free x hx)
 have hlk:∀ x c,(gG X.env scope.names []).lookup x = some c->X.env.cells.lookup x = some c:=fun x c e=>by
  have:=qq scope.names [] hcl _ (PySem.mem_of_lookup e)
  rcases this with z | z
  . cases z
  . exact z
 subst hC
 have neC:∀ x c,(gG X.env scope.names []).lookup x = some c->c < s.heap.objs.size:=fun x c e=>by
  obtain ⟨v,z⟩:=I.cell x c (hlk x c e)
  exact z.lt
 refine ⟨⟨I.ok.mod,S.kind,I.ok.glob,I.ok.blt,ay _,fun x y c e1 e2=>I.ok.inj x y c (hlk x c e1) (hlk y c e2),fun x hx=>?_,fun x c z _=>absurd z ai,I.ok.hd,I.ok.frames,.inl rfl,fun b hb=>⟨aH (hfl b hb),fun x c e=>(hf b hb).2.2.2.2.1 x c (hlk x c e)⟩,
  I.bs,bK I.ok.bsz I.sz,fun b o e hb=>?_,fun b hb hz=>?_,I.stack,I.stkFree⟩,rfl,I.bare,Un.kept hk,⟨_,hns,fun i x v e1 e2 e3=>?_⟩,fun x c e=>?_,I.hok.fresh (ay _),fun x c e=>I.freeC x c (hlk x c e),fun p hp=>absurd (show p∈([]:List (Addr × Obj)) from hp) (by simp),I.hok.kept hk,?_⟩
 . have q:=nR (cl:=gG X.env scope.names []) (C:=s.heap.objs.size) S.nocell hx
   obtain ⟨c,hm⟩:=qr (env:=X.env) scope.names [] x (.inl (PySem.mem_of_lookup q))
   exact gq hm
 . obtain ⟨_,_,_,f3,_⟩:=hf b hb
   rcases f3 with z | z
   . exact I.ok.noex b o e z
   . exact absurd (aP (aB e) (bK I.ok.bsz z)) (cI _)
 . obtain ⟨_,f1,f2,_⟩:=hf b hb
   rcases aQ.mp (I.stkSub b hz) with q | q
   . exact f1 q
   . exact f2 q
 . have e1:Nc[i]? = some x:=e1
   have hi:i < X.N.length:=by
    by_cases hi:i < X.N.length
    . exact hi
    . rw [aU (by rw [I.len];omega),dv] at e2
      split at e2<;>cases e2
   rw [aM (by rw [I.len];exact hi)] at e2
   have vis:Vis scope x:=by
    have e3:Vis (relabel scope X.env) x:=e3
    unfold Vis relabel at e3
    rw [fT (scope:=scope)] at e3
    unfold Vis
    cases q:scope.names.lookup x with
    | none=>rw [q] at e3;simp at e3
    | some k =>
      rw [q] at e3
      simp only [cM] at e3
      have:=S.nocell _ (PySem.mem_of_lookup q)
      cases k<;>simp_all
   obtain ⟨n1,n2⟩:=hN i x hi e1 vis
   obtain ⟨m,hn,hl'⟩:=I.loc
   have kd:=S.free x (PySem.mem_of_lookup n2)
   have visX:Vis X.env.scope x:=by
    rcases kd with z | z
    . exact .inr (.inl z)
    . exact .inr (.inr z)
   obtain ⟨u,r,l⟩:=hl' i x v n1 e2 visX
   refine ⟨u,r,.inr ?_⟩
   rcases l with ⟨k,_⟩ | ⟨k,c,ec,z⟩
   . rcases kd with z | z
     . rw [z] at k;cases k
     . rw [z] at k;cases k
   . obtain ⟨c',hm⟩:=qr (env:=X.env) scope.names [] x (.inl (PySem.mem_of_lookup n2))
     obtain ⟨c2,hc2⟩:=gq hm
     have:=hlk x c2 hc2
     rw [ec] at this
     cases this
     refine ⟨?_,c,hc2,?_⟩
     . show (compEnvC scope (gG X.env scope.names []) s.heap.objs.size X.env).kindOf x = some .cell\/(compEnvC scope (gG X.env scope.names []) s.heap.objs.size X.env).kindOf x = some .free
       rw [kq,n2]
       simp only [cM]
       split
       . exact .inl rfl
       . exact .inr rfl
     . obtain ⟨o,ho,hd⟩:=z
       exact ⟨o,hk _ _ ho,hd⟩
 . obtain ⟨v,o,ho,hd⟩:=I.cell x c (hlk x c e)
   exact ⟨v,o,hk _ _ ho,hd⟩
 . show _ = Nc.length
   rw [az,dI,I.len]
   omega
noncomputable def zC (D:Addr) (te:TE):TU:=fun σ H Q=>te σ H fun y H'=>∃ xs,H' D = some (.lst xs)/\xs.length < sizeLine/\Q σ (upd H' D (.lst (xs++[y])))
theorem Ds {X:Cx} {elt:Expr} {te:TE} {D:Addr} (he:PE X elt te):PU X (do let _ <- call (.builtin "list.append") [.ref D,<- eval elt X.env]) (zC D te):=by
 intro pins s σ H Q I h
 refine ag (thn (he pins s σ H _ I h) fun u s1 ⟨y,H1,I1,r1,xs,hD,hz,q⟩=>?_)
 refine ag (thn (kg pins s1 σ H1 (.ref D) [y] (.ref D) [u] (fun _ H'=>Q σ H') I1 rfl (.cons r1 .nil) ⟨D,xs,y,rfl,rfl,hD,hz,q⟩) fun _ s2 ⟨_,H2,I2,_,q2⟩=>?_)
 exact ar ⟨σ,H2,I2,q2⟩
noncomputable def tLC (k:Nat) (wi:TI) (g:TG) (tt:TT) (te:TE):TE:=fun σ H Q=>wi σ H fun J H1=>∀ D,H1 D = none ->
 tLp J g tt (zC D te) (σ++List.replicate k none) (upd H1 D (.lst [])) fun _ H2=>Q (.ref D) H2
theorem uq {X:Cx} {scope:Scope} {cl:List (Str × Addr)} {C:Addr} {Nc:List Str} {s s':Shared} {h2:Heap} {H H':Hp} {fp:List Addr} {pins:List (Addr × Obj)} {σ σ':St}
 (I:Inv X pins σ H s) (hf:∀ b∈fp,kx X pins H b) (hC:C = s.heap.objs.size) (J:Inv (cxC X scope cl C Nc s H fp) [] σ' H' s') (hs:Heap.SameBut C s'.heap h2):Inv X pins σ H' { s' with heap:=h2 }:=by
 have hok:HOk X.prog X.w H' h2:=fun b ob e=>by
  refine (J.hok b ob e).stay (fun c w' hc q=>(hs.2 c ?_).trans q) (fun _ q=>q) fun _ _ q=>q
  rintro rfl
  have fr:H' c = none:=J.free
  rcases hc with rfl | hc
  . rw [fr] at e;cases e
  . rw [fr] at hc;cases hc
 have neC:∀ b o,s.heap.get? b = some o->b≠C:=fun b o e=>by rw [hC];exact aH (aB e)
 refine I.call' (s':={ s' with heap:=h2 }) (ch:=fp) J.os ⟨fun b o e n hb hx=>?_,fun b o e n hb hx=>?_,fun b o e n hx=>J.base.free b o e n hx,fun b o e hx=>?_,J.base.tups,J.base.frzs,J.base.tbls⟩ hok J.bare fun b hb=>?_
 . exact (hs.2 b (neC b o e)).trans (J.base.keep b o e n hb hx)
 . obtain ⟨sl,z⟩:=J.base.slot b o e n hb hx
   exact ⟨sl,(hs.2 b (neC b o e)).trans z⟩
 . obtain ⟨o',z⟩:=J.base.there b o e hx
   exact ⟨o',(hs.2 b (neC b o e)).trans z⟩
 . obtain ⟨f0,f1,f2,f3,f4,f5⟩:=hf b hb
   exact ⟨f3,f1,f4,f5⟩
theorem ur {X:Cx} {scope:Scope} {C:Addr} {Nc:List Str} {s:Shared} {H H':Hp} {fp:List Addr} {pins:List (Addr × Obj)} {σ:St}
 (S:qE X scope) (I:Inv X pins σ H s) (hf:∀ b∈fp,kx X pins H b) (hfl:∀ b∈fp,b < s.heap.objs.size) (hC:C = s.heap.objs.size) (hn:∀ b∈fp,H' b = none) :
 ∀ b∈fp,kx (cxC X scope (gG X.env scope.names []) C Nc s H fp) [] H' b:=fun b hb=>by
 have hcl:∀ x,(x,NameKind.free)∈scope.names->∃ c,X.env.cells.lookup x = some c:=fun x hx=>I.ok.has x (S.free x hx)
 obtain ⟨f0,f1,f2,f3,f4,f5⟩:=hf b hb
 refine ⟨hn b hb,?_,fun z=>?_,.inl hb,fun x c e=>?_,fun p hp=>absurd (show p∈([]:List (Addr × Obj)) from hp) (by simp)⟩
 . show b≠C
   rw [hC];exact aH (hfl b hb)
 . rcases aQ.mp (I.stkSub b z) with q | q
   . exact f1 q
   . exact f2 q
 . have:=qq scope.names [] hcl _ (PySem.mem_of_lookup e)
   rcases this with z | z
   . cases z
   . exact f4 x c z
theorem Ak {X:Cx} {elt tg iter:Expr} {ifs:List Expr} {scope:Scope} {pos:Pos} {Nc:List Str} {wi:TI} {g:TG} {tt:TT} {te:TE}
 (hx:X.xe = fun _ _=>False) (hc:X.calm = true) (S:qE X scope) (hN:∀ i x,i < X.N.length->Nc[i]? = some x->Vis scope x->X.N[i]? = some x/\scope.names.lookup x = some .free) (hl:X.N.length<=Nc.length)
 (hi:PI X tg iter wi) (hg:∀ cl C s H fp,PG (cxC X scope cl C Nc s H fp) tg g) (ht:∀ cl C s H fp,PTs (cxC X scope cl C Nc s H fp) ifs tt) (he:∀ cl C s H fp,PE (cxC X scope cl C Nc s H fp) elt te)
 (hs:∀ x,foldedSetIterable iter X.env x = pure x):PE X (.ListComp elt [⟨tg,iter,ifs,0⟩] scope pos) (tLC (Nc.length - X.N.length) wi g tt te):=by
 intro pins s σ H Q I h
 rw [eval_ListComp]
 have cutE:∀ {α:Type} {m:Sem α} {Q:α->Shared->Prop} {s:Shared} {E':Value->Shared->Prop},wpAny (model X.prog X.w) X.A m Q X.xe s->wpAny (model X.prog X.w) X.A m Q E' s:=fun z=>by
  rw [hx] at z
  exact wpAny_noRaise z
 refine wpAny_comprehension_free (use:=none) rfl hs (Il fun x hz=>I.ok.has x (S.free x hz)) S.kind S.names (thn (hi pins s σ H _ I h) fun v s1 h1=>thn h1 fun itv s2 h2=>?_)
 obtain ⟨it,fp,tn,J,H2,e,I2,T,st2,f2,q⟩:=h2
 subst e
 refine bw (hd:=by size_fits) ?_
 have hfr:=I2.fresh
 have I3:Inv X pins σ (upd H2 s2.heap.objs.size (.lst [])) { s2 with heap:=s2.heap.push { cls:=.type "list",data:=.seq ([]:List Value).toArray } }:=I2.lnew (t':=s2.toks) (its:=[]) .nil (bA _)
 have st3:tn 0 (s2.heap.push { cls:=.type "list",data:=.seq ([]:List Value).toArray }):=T.keep _ _ _ st2 fun b _ o e=>ah _ e
 have fl3:∀ b∈fp,b < s2.heap.objs.size:=fun b hb=>by
  obtain ⟨o,e,_⟩:=T.obj _ _ st2 b hb
  exact aB e
 have ne3:∀ b∈fp,upd H2 s2.heap.objs.size (.lst []) b = none:=fun b hb=>by rw [aV (aH (fl3 b hb))];exact (f2 b hb).1
 have f3:∀ b∈fp,kx X pins (upd H2 s2.heap.objs.size (.lst [])) b:=fun b hb=>⟨ne3 b hb,(f2 b hb).2⟩
 have q3:=q s2.heap.objs.size hfr
 generalize hH3:upd H2 s2.heap.objs.size (.lst []) = H3 at I3 ne3 f3 q3
 generalize hs3:({ s2 with heap:=s2.heap.push { cls:=.type "list",data:=.seq ([]:List Value).toArray } }:Shared) = s3 at I3
 have hs3h:s3.heap = s2.heap.push { cls:=.type "list",data:=.seq ([]:List Value).toArray }:=by rw [<- hs3]
 rw [<- hs3h] at st3
 have fl4:∀ b∈fp,b < s3.heap.objs.size:=fun b hb=>by rw [hs3h,bQ];exact bu (fl3 b hb)
 refine wpAny_newFunctionEnv S.nocell (by intro y hy;simp at hy) (fun h1 hns hsb=>?_) S.kind
 have keep1:∀ b o,s3.heap.get? b = some o->h1.get? b = some o:=fun b o e=>hsb.extBut b o (aH (aB e)) (ah _ e)
 have J0:=xK (h1:=h1) (t1:=s3.toks+([]:List (Str × Value)).length) S I3 f3 fl4 rfl (by simpa using hns) keep1 hN hl
 have st4:tn 0 h1:=T.keep _ _ _ st3 fun b _ o e=>keep1 b o e
 have loop:∀ s4:Shared,s4 = { s3 with heap:=h1,toks:=s3.toks+([]:List (Str × Value)).length } ->
  codeAny (model X.prog X.w) X.A (.compLoop (.ListComp elt [⟨tg,iter,ifs,0⟩] scope pos) 0 (.ref it) (.ref s2.heap.objs.size) (compEnvC scope (gG X.env scope.names []) s3.heap.objs.size X.env))
   (compPost (model X.prog X.w) X.A X.xe none (EP X pins σ Q) (.ref s2.heap.objs.size) s3.heap.objs.size) s4:=by
  rintro s4 rfl
  refine Kk (X:=cxC X scope (gG X.env scope.names []) s3.heap.objs.size Nc s3 H3 fp) (ip:=iter.pos) (body:=(do let _ <- call (.builtin "list.append") [.ref s2.heap.objs.size,<- eval elt (compEnvC scope (gG X.env scope.names []) s3.heap.objs.size X.env)]))
   rfl hc rfl rfl rfl (by rw [compTurn_list]<;>rfl) T (hg _ _ _ _ _) (ht _ _ _ _ _) (Ds (he _ _ _ _ _)) J0 st4 (ur S I3 f3 fl4 rfl ne3) q3 ?_
  intro s' σ' H' J' q'
  obtain ⟨m,hn,_⟩:=J'.loc
  exact ⟨m,hn,fun h2 hs2=>⟨.ref s2.heap.objs.size,H',uq I3 f3 rfl J' hs2,rfl,q'⟩⟩
 exact codeAny_compStart_list (loop _ rfl) (T.self _ _ _ _ _ st4 (loop _ rfl))
end L2
end
section
namespace L2
open PySem PySem.Spec PyProof.Rows
end L2
end
section
namespace L2
open PySem PySem.Spec PyProof.Rows
section
variable {X:Cx}
noncomputable def Lb:V->Option Int->Option Int->Hp->VK->Prop:=fun x lo hi H Q=>∃ t,x = .str t/\t.length<=sizeLine/\Q (.str (Txt.slice t lo hi)) H
theorem part_of {v:Value} {lo:Option Int} (h:IsPart v lo):∃ l:Option (Int × Tok),v = partValue l/\l.map (·.1) = lo:=by
 cases h with
 | none=>exact ⟨none,rfl,rfl⟩
 | int i t=>exact ⟨some (i,t),rfl,rfl⟩
theorem Gx:SlR X Lb:=by
 intro pins s σ H x v vl vu lo hi sl Q I rx hs pl pu h
 obtain ⟨t,rfl,hz,q⟩:=h
 obtain ⟨k,rfl⟩:=rx
 obtain ⟨l,rfl,rfl⟩:=part_of pl
 obtain ⟨u,rfl,rfl⟩:=part_of pu
 refine ⟨"str",_,PySem.F.slot_str_getitem.lookup,IP _ _ _,wpAny_getItem_str_slice (l:=l) (u:=u) (st:=none) hs rfl ?_⟩
 exact post_val_or_str ⟨bK (Txt.slice_le t _ _) hz,fun t' k=>⟨.str _,H,I.tok _,⟨_,rfl⟩,q⟩⟩
end
end L2
end
section
namespace PP
open PySem PySem.W PyProof.Rows
noncomputable def ans {α:Type} (lt:Nat->Nat->Bool):KasT α->α
 | .ret a=>a
 | .ask i j k=>ans lt (k (lt i j))
theorem cZ {α β:Type} (lt:Nat->Nat->Bool) (f:α->KasT β):∀ t:KasT α,ans lt (t.bind f) = ans lt (f (ans lt t))
 | .ret a=>rfl
 | .ask i j k=>by
   show ans lt ((k (lt i j)).bind f) = _
   rw [cZ lt f (k (lt i j))]
   rfl
theorem dP {α:Type} (lt:Nat->Nat->Bool) (i j:Nat) (k:Bool->KasT α):ans lt (.ask i j k) = ans lt (k (lt i j)):=rfl
theorem fM {α:Type} (lt:Nat->Nat->Bool) (a:α):ans lt (.ret a) = a:=rfl
structure Ord (lt:Nat->Nat->Bool):Prop where
 as:∀ a b,lt a b = true->lt b a = false
 tr:∀ a b c,lt b a = false->lt c b = false->lt c a = false
section
variable {lt:Nat->Nat->Bool} (O:Ord lt)
noncomputable def Up (lt:Nat->Nat->Bool) (p:Array Nat) (m:Nat):Prop:=∀ i j,i<=j->j < m->lt (p.getD j 0) (p.getD i 0) = false
noncomputable def Dn' (lt:Nat->Nat->Bool) (p:Array Nat) (m:Nat):Prop:=∀ i j,i<=j->j < m->lt (p.getD i 0) (p.getD j 0) = false
include O
theorem Ord.refl (a:Nat):lt a a = false:=by
 cases h:lt a a with
 | false=>rfl
 | true=>have:=O.as a a h;rw [h] at this;cases this
theorem Up.one (p:Array Nat):Up lt p 1:=fun i j h1 h2=>by
 have e1:j = 0:=by omega
 have e2:i = 0:=by omega
 subst e1;subst e2
 exact O.refl _
theorem Up.more {p:Array Nat} {n:Nat} (h:Up lt p n) (hn:1<=n) (h2:lt (p.getD n 0) (p.getD (n - 1) 0) = false):Up lt p (n+1):=fun i j h3 h4=>by
 by_cases e:j = n
 . subst e
   by_cases e':i = j
   . subst e';exact O.refl _
   . exact O.tr _ _ _ (h i (j - 1) (by omega) (by omega)) h2
 . exact h i j h3 (by omega)
theorem Dn'.more {p:Array Nat} {n:Nat} (h:Dn' lt p n) (hn:1<=n) (h2:lt (p.getD (n - 1) 0) (p.getD n 0) = false):Dn' lt p (n+1):=fun i j h3 h4=>by
 by_cases e:j = n
 . subst e
   by_cases e':i = j
   . subst e';exact O.refl _
   . exact O.tr _ _ _ h2 (h i (j - 1) (by omega) (by omega))
 . exact h i j h3 (by omega)
theorem uB (p:Array Nat):∀ (f n:Nat),1<=n->Up lt p n->n<=ans lt (kas_asc p f n)/\ans lt (kas_asc p f n)<=n+f/\Up lt p (ans lt (kas_asc p f n))/\(ans lt (kas_asc p f n) < n+f->lt (p.getD (ans lt (kas_asc p f n)) 0) (p.getD (ans lt (kas_asc p f n) - 1) 0) = true)
 | 0,n,_,h=>⟨ay _,ay _,h,fun z=>absurd z (cI _)⟩
 | f+1,n,hn,h=>by
   unfold kas_asc
   rw [dP]
   cases c:lt (p.getD n 0) (p.getD (n - 1) 0) with
   | true =>
     rw [if_pos rfl,fM]
     exact ⟨ay _,by omega,h,fun _=>c⟩
   | false =>
     rw [if_neg ai]
     obtain ⟨a1,a2,a3,a4⟩:=uB p f (n+1) (by omega) (h.more O hn c)
     exact ⟨by omega,by omega,a3,fun z=>a4 (by omega)⟩
omit O in
theorem getD_eq (p:Array Nat) (k:Nat):p.getD k 0 = (p[k]?).getD 0:=by
 simp [Array.getD_eq_getD_getElem?]
omit O in
theorem fZ {p:Array Nat} {i j:Nat} (hj:j<=p.size) (k:Nat):(kas_rev p i j).getD k 0 = if i<=k/\k < j then p.getD (i+j - 1 - k) 0 else p.getD k 0:=by
 rw [getD_eq,kas_rev,getElem?_mirror hj ((j - i) / 2) (by omega) k]
 by_cases h:i<=k/\k < j
 . rw [if_pos h]
   by_cases h2:(i<=k/\k < i+(j - i) / 2)\/(j - (j - i) / 2<=k/\k < j)
   . rw [if_pos h2,getD_eq]
   . rw [if_neg h2,getD_eq]
     have:i+j - 1 - k = k:=by omega
     rw [this]
 . rw [if_neg h]
   by_cases h2:(i<=k/\k < i+(j - i) / 2)\/(j - (j - i) / 2<=k/\k < j)
   . exfalso;omega
   . rw [if_neg h2,getD_eq]
omit O in
theorem fS (p:Array Nat) (i j:Nat):(kas_rev p i j).size = p.size:=mirror_size _ _ _ _
omit O in
theorem dz (p:Array Nat) (i j:Nat):(kas_rev p i j).Perm p:=mirror_perm _ _ _ _
theorem Dn'.rev {p:Array Nat} {n:Nat} (h:Dn' lt p n) (hn:n<=p.size):Up lt (kas_rev p 0 n) n:=fun i j h1 h2=>by
 rw [fZ hn,fZ hn,if_pos ⟨by omega,h2⟩,if_pos ⟨by omega,by omega⟩]
 exact h _ _ (by omega) (by omega)
noncomputable def Eqv (lt:Nat->Nat->Bool) (p:Array Nat) (a b:Nat):Prop:=∀ i j,a<=i->i < b->a<=j->j < b->lt (p.getD i 0) (p.getD j 0) = false
theorem Dn'.turn {p:Array Nat} {n a:Nat} (h:Dn' lt p n) (hn:n<=p.size) (e:Eqv lt p a n):Dn' lt (kas_rev p a n) n:=fun i j h1 h2=>by
 rw [fZ hn,fZ hn]
 by_cases hi:a<=i
 . rw [if_pos ⟨hi,by omega⟩,if_pos ⟨by omega,h2⟩]
   exact e _ _ (by omega) (by omega) (by omega) (by omega)
 . rw [if_neg (by omega)]
   by_cases hj:a<=j
   . rw [if_pos ⟨hj,h2⟩]
     exact h _ _ (by omega) (by omega)
   . rw [if_neg (by omega)]
     exact h _ _ h1 h2
theorem lE:∀ (f:Nat) (p:Array Nat) (n q:Nat),1<=n->q < n->n+f<=p.size->Dn' lt p n->Eqv lt p (n - (q+1)) n ->
 let r:=ans lt (kas_desc f p n q)
 r.1.size = p.size/\r.1.Perm p/\n<=r.2.1/\r.2.1<=n+f/\r.2.2 < r.2.1/\Dn' lt r.1 r.2.1/\Eqv lt r.1 (r.2.1 - (r.2.2+1)) r.2.1
 | 0,p,n,q,hn,hq,hz,h,e=>⟨rfl,cw _,ay _,ay _,hq,h,e⟩
 | f+1,p,n,q,hn,hq,hz,h,e=>by
   unfold kas_desc
   rw [dP]
   cases c:lt (p.getD n 0) (p.getD (n - 1) 0) with
   | true =>
     rw [if_pos rfl]
     have c':=O.as _ _ c
     have one:∀ p':Array Nat,Eqv lt p' (n+1 - (0+1)) (n+1):=fun p' i j h1 h2 h3 h4=>by
      have e1:i = j:=by omega
      rw [e1];exact O.refl _
     by_cases hq0:q > 0
     . rw [if_pos hq0]
       have hT:Dn' lt (kas_rev p (n - (q+1)) n) (n+1):=by
        refine (h.turn O (by omega) e).more O hn ?_
        rw [fZ (by omega),fZ (by omega),if_pos ⟨by omega,by omega⟩,if_neg (by omega)]
        exact O.tr _ _ _ c' (e _ _ (by omega) (by omega) (by omega) (by omega))
       obtain ⟨a1,a2,a3,a4,a5,a6,a7⟩:=lE f (kas_rev p (n - (q+1)) n) (n+1) 0 (by omega) (by omega) (by rw [fS];omega) hT (one _)
       exact ⟨by rw [a1,fS],a2.trans (dz _ _ _),by omega,by omega,a5,a6,a7⟩
     . rw [if_neg hq0]
       obtain ⟨a1,a2,a3,a4,a5,a6,a7⟩:=lE f p (n+1) 0 (by omega) (by omega) (by omega) (h.more O hn c') (one _)
       exact ⟨a1,a2,by omega,by omega,a5,a6,a7⟩
   | false =>
     rw [if_neg ai,dP]
     cases d:lt (p.getD (n - 1) 0) (p.getD n 0) with
     | true =>
       rw [if_pos rfl,fM]
       exact ⟨rfl,cw _,ay _,fH _ _,hq,h,e⟩
     | false =>
       rw [if_neg ai]
       have hE:Eqv lt p (n+1 - (q+1+1)) (n+1):=fun i j h1 h2 h3 h4=>by
        by_cases ei:i = n
        . subst ei
          by_cases ej:j = i
          . subst ej;exact O.refl _
          . exact O.tr _ _ _ (e _ _ (by omega) (by omega) (by omega) (by omega)) c
        . by_cases ej:j = n
          . subst ej
            exact O.tr _ _ _ d (e _ _ (by omega) (by omega) (by omega) (by omega))
          . exact e _ _ (by omega) (by omega) (by omega) (by omega)
       obtain ⟨a1,a2,a3,a4,a5,a6,a7⟩:=lE f p (n+1) (q+1) (by omega) (by omega) (by omega) (h.more O hn d) hE
       exact ⟨a1,a2,by omega,by omega,a5,a6,a7⟩
theorem qX (p:Array Nat) (n m:Nat) (hn:1<=n) (hm:n<=m) (hz:m<=p.size) (h:Dn' lt p n) :
 let r:=ans lt (kas_tail3 n m p)
 r.2.size = p.size/\r.2.Perm p/\1<=r.1/\r.1<=m/\Up lt r.2 r.1:=by
 unfold kas_tail3
 rw [cZ,fM]
 obtain ⟨a1,a2,a3,_⟩:=uB O (kas_rev p 0 n) (m - n) n hn (h.rev O (by omega))
 exact ⟨fS _ _ _,dz _ _ _,by omega,by omega,a3⟩
theorem kE (p:Array Nat) (n m:Nat) (hn:1<=n) (hm:n < m) (hz:m<=p.size) (h:Dn' lt p (n+1)) :
 let r:=ans lt (kas_descPart n m p)
 r.2.size = p.size/\r.2.Perm p/\1<=r.1/\r.1<=m/\Up lt r.2 r.1:=by
 unfold kas_descPart
 rw [cZ]
 have one:Eqv lt p (n+1 - (0+1)) (n+1):=fun i j h1 h2 h3 h4=>by
  have e1:i = j:=by omega
  rw [e1];exact O.refl _
 obtain ⟨a1,a2,a3,a4,a5,a6,a7⟩:=lE O (m - (n+1)) p (n+1) 0 (by omega) (by omega) (by omega) h one
 generalize ans lt (kas_desc (m - (n+1)) p (n+1) 0) = r at a1 a2 a3 a4 a5 a6 a7
 by_cases hq:r.2.2 > 0
 . rw [if_pos hq]
   obtain ⟨b1,b2,b3,b4,b5⟩:=qX O (kas_rev r.1 (r.2.1 - (r.2.2+1)) r.2.1) r.2.1 m (by omega) (by omega) (by rw [fS];omega) (a6.turn O (by omega) a7)
   exact ⟨by rw [b1,fS,a1],(b2.trans (dz _ _ _)).trans a2,b3,b4,b5⟩
 . rw [if_neg hq]
   obtain ⟨b1,b2,b3,b4,b5⟩:=qX O r.1 r.2.1 m (by omega) (by omega) (by omega) a6
   exact ⟨by rw [b1,a1],b2.trans a2,b3,b4,b5⟩
theorem Bq (p:Array Nat) (m:Nat) (hm:1<=m) (hz:m<=p.size) :
 let r:=ans lt (kas_count m p)
 r.2.size = p.size/\r.2.Perm p/\1<=r.1/\r.1<=m/\Up lt r.2 r.1:=by
 unfold kas_count
 rw [cZ]
 obtain ⟨a1,a2,a3,a4⟩:=uB O p (m - 1) 1 (ay _) (Up.one O p)
 generalize ans lt (kas_asc p (m - 1) 1) = n at a1 a2 a3 a4
 by_cases e:(n == m) = true
 . rw [if_pos e,fM]
   exact ⟨rfl,cw _,a1,by omega,a3⟩
 . rw [if_neg e]
   have ne:n≠m:=fun z=>e (by rw [z];simp)
   have c:=a4 (by omega)
   by_cases h1:n > 1
   . rw [if_pos h1,dP]
     cases d:lt (p.getD 0 0) (p.getD (n - 1) 0) with
     | true =>
       rw [if_pos rfl,fM]
       exact ⟨rfl,cw _,a1,by omega,a3⟩
     | false =>
       rw [if_neg ai]
       have hE:Eqv lt p 0 n:=fun i j _ hi _ hj=>by
        have x1:lt (p.getD 0 0) (p.getD j 0) = false:=O.tr _ _ _ (a3 j (n - 1) (by omega) (by omega)) d
        exact O.tr _ _ _ x1 (a3 0 i (by omega) hi)
       have hD:Dn' lt (kas_rev p 0 n) (n+1):=by
        refine (Dn'.turn O (p:=p) (n:=n) (a:=0) (fun i j hi hj=>hE i j (by omega) (by omega) (by omega) (by omega)) (by omega) hE).more O a1 ?_
        rw [fZ (by omega),fZ (by omega),if_pos ⟨by omega,by omega⟩,if_neg (by omega)]
        exact O.tr _ _ _ (O.as _ _ c) (hE _ _ (by omega) (by omega) (by omega) (by omega))
       obtain ⟨b1,b2,b3,b4,b5⟩:=kE O (kas_rev p 0 n) n m a1 (by omega) (by rw [fS];omega) hD
       exact ⟨by rw [b1,fS],b2.trans (dz _ _ _),b3,b4,b5⟩
   . rw [if_neg h1]
     have e1:n = 1:=by omega
     subst e1
     have hD:Dn' lt p (1+1):=by
      refine Dn'.more O (n:=1) (fun i j h1 h2=>?_) (ay _) (O.as _ _ c)
      have e1:i = j:=by omega
      rw [e1];exact O.refl _
     exact kE O p 1 m (ay _) (by omega) hz hD
theorem mi (p:Array Nat) (k:Nat) (h:Up lt p k):∀ (f l r:Nat),l<=r->r<=k->r - l<=f->(∀ i,i < l->lt (p.getD k 0) (p.getD i 0) = false)->(∀ i,r<=i->i < k->lt (p.getD i 0) (p.getD k 0) = false) ->
 let x:=ans lt (kas_place p k f l r)
 x<=k/\(∀ i,i < x->lt (p.getD k 0) (p.getD i 0) = false)/\∀ i,x<=i->i < k->lt (p.getD i 0) (p.getD k 0) = false
 | 0,l,r,h1,h2,h3,h4,h5=>by
   have e:l = r:=by omega
   subst e
   exact ⟨h2,h4,h5⟩
 | f+1,l,r,h1,h2,h3,h4,h5=>by
   unfold kas_place
   by_cases hlr:l ≥ r
   . rw [if_pos hlr,fM]
     have e:l = r:=by omega
     subst e
     exact ⟨h2,h4,h5⟩
   . rw [if_neg hlr,dP]
     cases c:lt (p.getD k 0) (p.getD ((l+r) / 2) 0) with
     | true =>
       rw [if_pos rfl]
       refine mi p k h f l ((l+r) / 2) (by omega) (by omega) (by omega) h4 fun i hi hk=>?_
       exact O.tr _ _ _ (O.as _ _ c) (h _ i (by omega) hk)
     | false =>
       rw [if_neg ai]
       refine mi p k h f ((l+r) / 2+1) r (by omega) h2 (by omega) (fun i hi=>?_) h5
       exact O.tr _ _ _ (h i ((l+r) / 2) (by omega) (by omega)) c
theorem By:∀ (f:Nat) (p:Array Nat) (k:Nat),k+f<=p.size->Up lt p k ->
 let r:=ans lt (kas_bin f p k)
 r.size = p.size/\r.Perm p/\Up lt r (k+f)
 | 0,p,k,_,h=>⟨rfl,cw _,h⟩
 | f+1,p,k,hz,h=>by
   unfold kas_bin
   rw [cZ]
   obtain ⟨a1,a2,a3⟩:=mi O p k h k 0 k (by omega) (by omega) (by omega) (fun i hi=>by omega) (fun i h1 h2=>by omega)
   generalize ans lt (kas_place p k k 0 k) = l at a1 a2 a3
   have bg:∀ t,(bubble p k (k - l)).getD t 0 = if t = l then p.getD k 0 else if l < t/\t<=k then p.getD (t - 1) 0 else p.getD t 0:=fun t=>by
    rw [getD_eq,getElem?_bubble (by omega) (k - l) (by omega) t]
    have e1:k - (k - l) = l:=by omega
    rw [e1]
    by_cases h1:t = l
    . rw [if_pos h1,if_pos h1,getD_eq]
    . rw [if_neg h1,if_neg h1]
      by_cases h2:l < t/\t<=k
      . rw [if_pos h2,if_pos h2,getD_eq]
      . rw [if_neg h2,if_neg h2,getD_eq]
   have hU:Up lt (bubble p k (k - l)) (k+1):=fun i j h1 h2=>by
    rw [bg i,bg j]
    by_cases i1:i = l
    . rw [if_pos i1]
      by_cases j1:j = l
      . rw [if_pos j1];exact O.refl _
      . rw [if_neg j1,if_pos ⟨by omega,by omega⟩]
        exact a3 _ (by omega) (by omega)
    . rw [if_neg i1]
      by_cases i2:l < i/\i<=k
      . rw [if_pos i2,if_neg (by omega),if_pos ⟨by omega,by omega⟩]
        exact h _ _ (by omega) (by omega)
      . rw [if_neg i2]
        by_cases j1:j = l
        . rw [if_pos j1]
          exact a2 i (by omega)
        . rw [if_neg j1]
          by_cases j2:l < j/\j<=k
          . rw [if_pos j2]
            exact h _ _ (by omega) (by omega)
          . rw [if_neg j2]
            exact h _ _ h1 (by omega)
   obtain ⟨b1,b2,b3⟩:=By f (bubble p k (k - l)) (k+1) (by rw [bubble_size];omega) hU
   exact ⟨by rw [b1,bubble_size],b2.trans (Ey _ _ _),by rw [show k+(f+1) = k+1+f by omega];exact b3⟩
theorem CA (n:Nat) (hn:1<=n) :
 let r:=ans lt (kas_sort n)
 r.size = n/\r.Perm (List.toArray (List.range n))/\Up lt r n:=by
 unfold kas_sort
 rw [cZ]
 have hs:(List.toArray (List.range n)).size = n:=by simp
 obtain ⟨a1,a2,a3,a4,a5⟩:=Bq O (List.toArray (List.range n)) n hn (by omega)
 generalize ans lt (kas_count n (List.toArray (List.range n))) = r at a1 a2 a3 a4 a5
 by_cases h:r.1 < n
 . rw [if_pos h]
   have e:max r.1 1 = r.1:=by omega
   rw [e]
   obtain ⟨b1,b2,b3⟩:=By O (n - r.1) r.2 r.1 (by omega) a5
   have e2:r.1+(n - r.1) = n:=by omega
   rw [e2] at b3
   exact ⟨by omega,b2.trans a2,b3⟩
 . rw [if_neg h,fM]
   have e:r.1 = n:=by omega
   exact ⟨by omega,a2,by rw [<- e];exact a5⟩
end
end PP
end
section
namespace PP
open PySem
inductive D where
 | non | bl (b:Bool) | int (i:Int) | str (x:Str) | lst (ds:List D) | tup (ds:List D) | fn (k:Nat) (ds:List D) | dct (ks:List Str) (ds:List D)
 deriving Inhabited
mutual
noncomputable def eqD:D->D->Bool
 | .non,.non=>true
 | .bl a,.bl b=>a == b
 | .bl a,.int b=>(if a then 1 else 0) == b
 | .int a,.bl b=>a == (if b then 1 else 0)
 | .int a,.int b=>a == b
 | .str a,.str b=>a == b
 | .lst a,.lst b=>eZ a b
 | .tup a,.tup b=>eZ a b
 | _,_=>false
noncomputable def eZ:List D->List D->Bool
 | [],[]=>true
 | x::xs,y::ys=>eqD x y && eZ xs ys
 | _,_=>false
end
mutual
noncomputable def ltD:D->D->Option Bool
 | .int a,.int b=>some (decide (a < b))
 | .str a,.str b=>some (decide (a.cps.toList < b.cps.toList))
 | .tup a,.tup b=>dq a b
 | _,_=>none
noncomputable def dq:List D->List D->Option Bool
 | [],[]=>some false
 | [],_::_=>some true
 | _::_,[]=>some false
 | x::xs,y::ys=>if eqD x y = true then dq xs ys else ltD x y
end
mutual
noncomputable def dep:D->Nat
 | .lst ds | .tup ds=>bI ds+1
 | .fn _ _=>100000
 | .dct _ _=>100000
 | _=>0
noncomputable def bI:List D->Nat
 | []=>0
 | x::xs=>max (dep x) (bI xs)
end
mutual
noncomputable def lf:D->Bool
 | .lst _=>false
 | .fn _ _=>false
 | .dct _ _=>false
 | .tup ds=>lfL ds
 | _=>true
noncomputable def lfL:List D->Bool
 | []=>true
 | x::xs=>lf x && lfL xs
end
noncomputable def flat:D->Bool
 | .non | .bl _ | .int _ | .str _=>true
 | _=>false
noncomputable def tv:D->Option Bool
 | .non=>some false
 | .bl b=>some b
 | .int i=>some (i != 0)
 | .str x=>if x.length<=sizeLine then some ((x.length:Int) != 0) else none
 | .lst ds | .tup ds=>some (!ds.isEmpty)
 | .fn _ _=>none
 | .dct _ _=>none
inductive Op where
 | add | sub | mul | mod | fdiv | pow
 deriving DecidableEq
inductive Cop where
 | lt | le | gt | eq | ne | isin | notin | is
 deriving DecidableEq
inductive Blt where
 | len | min | max | toInt | toStr | toTup | toLst | dvm | any | sorted | isTup
 deriving DecidableEq
noncomputable def iu (i j:Int):Bool:=(decide (-(2 ^ 64) < i) && decide (i < 2 ^ 64)) || (decide (-(2 ^ 64) < j) && decide (j < 2 ^ 64)) || (decide (i.natAbs < 2 ^ 200) && decide (j.natAbs < 2 ^ 200))
noncomputable def Ab (x:Str) (n:Nat):Str:=⟨(List.replicate n x.cps.toList).flatten.toArray⟩
noncomputable def IG:D->D->Option D
 | .int a,.int b=>some (.int (a+b))
 | .str a,.str b=>if a.length+b.length<=sizeLine then some (.str (a++b)) else none
 | .tup [],.tup b=>some (.tup b)
 | .tup (x::a),.tup b=>if (x::a).length+b.length<=sizeLine then some (.tup (x::a++b)) else none
 | .lst a,.lst b=>if a.length+b.length<=sizeLine then some (.lst (a++b)) else none
 | _,_=>none
noncomputable def Lp:D->D->Option D
 | .int a,.int b=>some (.int (a+b))
 | .tup (x::a),.tup b=>if (x::a).length+b.length<=sizeLine then some (.tup (x::a++b)) else none
 | _,_=>none
noncomputable def Gg:D->D->Option D
 | .int a,.int b=>some (.int (a - b))
 | _,_=>none
noncomputable def HG:D->D->Option D
 | .int a,.int b=>if iu a b then some (.int (a * b)) else none
 | .str a,.int b=>if 0<=b/\b<=1000/\a.length<=1000 then some (.str (Ab a b.toNat)) else none
 | _,_=>none
noncomputable def HH:D->D->Option D
 | .int a,.int b=>if 0 < b then some (.int (a % b)) else none
 | _,_=>none
noncomputable def Bk:D->D->Option D
 | .int a,.int b=>if 0 < b/\b < 1000000000000000000000000000000000000000000000000000000000000 then some (.int (a / b)) else none
 | _,_=>none
noncomputable def GZ:D->D->Option D
 | .int a,.int b=>if 0<=b/\b<=1000000/\a.natAbs < 2 ^ 64 then some (.int (a ^ b.toNat)) else none
 | _,_=>none
noncomputable def opD:Op->D->D->Option D
 | .add=>IG | .sub=>Gg | .mul=>HG | .mod=>HH | .fdiv=>Bk | .pow=>GZ
noncomputable def kin:D->D->Bool
 | .bl _,.bl _ | .int _,.int _ | .str _,.str _ | .lst _,.lst _ | .tup _,.tup _=>true
 | _,_=>false
noncomputable def gc (a b:D):Bool:=kin a b && decide (min (dep a) (dep b)<=150) && decide (max (dep a) (dep b) < 100000)
noncomputable def JL:D->D->Bool
 | .int _,.str _=>true
 | .str _,.int _=>true
 | _,_=>false
noncomputable def Hl (p:Int->Int->Bool):D->D->Option Bool
 | .int a,.int b=>some (p a b)
 | _,_=>none
noncomputable def HF (y x:Str):Bool:=!(Builtin.Str.occurrences y x 0 y.length 1).isEmpty
noncomputable def inD (a:D):D->Option Bool
 | .lst ds=>if dep a<=150/\bI ds < 99999 then some (ds.any fun y=>eqD y a) else none
 | .tup ds=>if dep a<=150/\bI ds < 99999 then some (ds.any fun y=>eqD y a) else none
 | .str y=>match a with
   | .str x=>some (HF y x)
   | _=>none
 | _=>none
noncomputable def iT (a b:D):Option Bool:=if min (dep a) (dep b)<=150/\max (dep a) (dep b) < 100000 then ltD a b else none
noncomputable def gp (ds:List D) (i j:Nat):Bool:=(iT (ds.getD i .non) (ds.getD j .non)).getD false
noncomputable def dQ (ds:List D):List D:=if ds.length < 2 then ds else (ans (gp ds) (PySem.W.kas_sort ds.length)).toList.map fun i=>ds.getD i .non
noncomputable def bo:D->Nat
 | .str _=>1
 | .int _=>2
 | .tup (.str _::_)=>3
 | .tup (.int _::_)=>4
 | _=>0
noncomputable def sortable (ds:List D):Bool:=decide (ds.length < 64) && (ds.all fun x=>bo x != 0 && bo x == bo (ds.getD 0 .non)) && ds.all fun x=>ds.all fun y=>(iT x y).isSome
mutual
noncomputable def hb:D->Bool
 | .str _ | .int _=>true
 | .tup ds=>hbL ds
 | _=>false
noncomputable def hbL:List D->Bool
 | []=>true
 | d::ds=>hb d && hbL ds
end
noncomputable def hok:D->Bool
 | .tup (.str x::ds)=>hbL ds && decide (bI ds<=7)
 | _=>false
noncomputable def kW (ds:List D) (d:D):List D:=if ds.any (fun y=>eqD y d) then ds else ds++[d]
noncomputable def hW (ds:List D):List D:=ds.foldl kW []
noncomputable def ltB (a b:D):Bool:=(iT a b).getD false
noncomputable def tot (ds:List D):Bool:=ds.all fun a=>ds.all fun b=>!(ltB a b && ltB b a) && (ltB a b || ltB b a || eqD a b) && ds.all fun c=>ltB b a || ltB c b || !ltB c a
noncomputable def HX:D->Bool
 | .non=>true
 | _=>false
noncomputable def isD (a:D):D->Option Bool
 | .non=>some (HX a)
 | _=>none
noncomputable def leD:D->D->Option Bool
 | .int a,.int b=>some (decide (a<=b))
 | .str a,.str b=>some (!decide (b.cps.toList < a.cps.toList))
 | _,_=>none
noncomputable def ux:Cop->D->D->Option Bool
 | .lt,x,y=>iT x y
 | .le,x,y=>leD x y
 | .gt,x,y=>Hl (fun a b=>decide (b < a)) x y
 | .eq,a,b=>if gc a b then some (eqD a b) else if JL a b = true then some false else none
 | .ne,a,b=>if gc a b then some (!eqD a b) else none
 | .isin,a,y=>inD a y
 | .notin,a,y=>(inD a y).map (!·)
 | .is,a,y=>isD a y
noncomputable def ixD:D->D->Option D
 | .lst ds,.int i=>L2.atI ds i
 | .tup ds,.int i=>L2.atI ds i
 | .str x,.int i=>if x.length<=sizeLine then (L2.atI x.cps.toList i).map fun c=>.str ⟨#[c]⟩ else none
 | _,_=>none
noncomputable def cutD (ds:List D) (lo hi:Option Int):List D:=(ds.drop (HT.sIx ds.length 0 lo)).take (HT.sIx ds.length ds.length hi - HT.sIx ds.length 0 lo)
noncomputable def slD:D->Option Int->Option Int->Option D
 | .lst ds,lo,hi=>some (.lst (cutD ds lo hi))
 | .tup ds,lo,hi=>if HT.sIx ds.length 0 lo = 0/\HT.sIx ds.length ds.length hi = ds.length then none else some (.tup (cutD ds lo hi))
 | .str x,lo,hi=>if x.length<=sizeLine then some (.str (Txt.slice x lo hi)) else none
 | _,_,_=>none
noncomputable def oN:List D->Option (List Int)
 | []=>some []
 | .int i::r=>(oN r).map (i::·)
 | _=>none
noncomputable def DQ:List D->Option D
 | [.str x]=>if x.length<=sizeLine then some (.int x.length) else none
 | [.lst ds]=>some (.int ds.length)
 | [.tup ds]=>some (.int ds.length)
 | _=>none
noncomputable def minD:List D->Option D
 | [.int i,.int j]=>some (.int (if j < i then j else i))
 | _=>none
noncomputable def pF:List Int->Int
 | []=>0
 | n::ns=>ns.foldl (fun a b=>if b > a then b else a) n
noncomputable def maxD:List D->Option D
 | [.int i,.int j]=>some (.int (if j > i then j else i))
 | [.lst ds]=>(oN ds).bind fun ns=>if ns = [] then none else some (.int (pF ns))
 | _=>none
noncomputable def pI:List D->Option D
 | [.int i]=>some (.int i)
 | [.bl b]=>some (.int (if b then 1 else 0))
 | [.str x]=>if x.length<=640 then (PySem.intText? x).map .int else none
 | _=>none
noncomputable def pH:List D->Option D
 | [.int i]=>if i.natAbs.log2 < 1920 then some (.str (toString i)) else none
 | _=>none
noncomputable def pG:List D->Option D
 | [.lst ds]=>some (.tup ds)
 | [.tup ds]=>some (.tup ds)
 | _=>none
noncomputable def jW:List D->Option D
 | [.lst ds]=>some (.lst ds)
 | [.tup ds]=>some (.lst ds)
 | _=>none
noncomputable def Ec:List D->Option D
 | [.int a,.int b]=>if 0 < b/\b < 1073741824 then some (.tup [.int (a / b),.int (a % b)]) else none
 | _=>none
noncomputable def ji:List D->Option (List Bool)
 | []=>some []
 | .bl i::r=>(ji r).map (i::·)
 | _=>none
noncomputable def Ep:List D->Option D
 | [.lst ds]=>(ji ds).map fun bs=>.bl (bs.any id)
 | _=>none
noncomputable def lj:List D->Option D
 | [.lst ds]=>if sortable ds = true then some (.lst (dQ ds)) else none
 | _=>none
noncomputable def gu:List D->Option D
 | [.tup _]=>some (.bl true)
 | [.fn _ _]=>none
 | [.dct _ _]=>none
 | [_]=>some (.bl false)
 | _=>none
noncomputable def hX:Blt->List D->Option D
 | .len=>DQ | .min=>minD | .max=>maxD | .toInt=>pI | .toStr=>pH | .toTup=>pG | .toLst=>jW | .dvm=>Ec | .any=>Ep | .sorted=>lj
 | .isTup=>gu
inductive Sl where
 | no | val (d:D) | own (ds:List D) | fnc (k:Nat) (cs:List D) | odc (ks:List Str) (ds:List D)
 deriving Inhabited
abbrev Loc:=List Sl
inductive Tg where
 | nm (i:Nat)
 | tp (is:List Nat)
 | pr (i:Nat) (is:List Nat)
inductive Mt | split | part | ends | join | index
mutual
inductive E where
 | var (i:Nat)
 | pk (i:Nat)
 | glob (g:Nat)
 | int (i:Int) | bl (b:Bool) | non | str (x:Str)
 | bin (op:Op) (a b:E)
 | cmp (op:Cop) (a b:E)
 | and (a b:E) | or (a b:E) | not (a:E) | neg (a:E)
 | ite (c a b:E)
 | tup (es:Es) | lst (es:Es)
 | ix (a b:E)
 | sl (a:E) (lo hi:Eo)
 | call (f:Nat) (es:Es)
 | blt (f:Blt) (es:Es)
 | bad
 | ssd (a:E)
 | comp (k:Nat) (tg:Tg) (src:It) (ifs:Eo) (elt:E)
inductive Es where
 | nil | cons (e:E) (es:Es)
inductive Eo where
 | no | yes (e:E)
inductive It where
 | rng (e:E) | rng2 (a b:E) | sq (e:E)
end
noncomputable def get (δ:Loc) (i:Nat):Option D:=match δ[i]? with
 | some (.val d)=>some d
 | some (.own ds)=>some (.lst ds)
 | _=>none
noncomputable def Bg (δ:Loc) (i:Nat):Option D:=match δ[i]? with
 | some (.odc ks ds)=>some (.dct ks ds)
 | _=>get δ i
noncomputable def demote (δ:Loc) (i:Nat):Loc:=match δ[i]? with
 | some (.own ds)=>δ.set i (.val (.lst ds))
 | some (.odc ks ds)=>δ.set i (.val (.dct ks ds))
 | _=>δ
noncomputable def eR (δ:Loc):Tg->D->Option Loc
 | .nm i,d=>if i < δ.length then some (δ.set i (.val d)) else none
 | .tp is,.tup ds=>if is.length = ds.length/\is.all (· < δ.length) = true then some ((is.zip ds).foldl (fun δ p=>δ.set p.1 (.val p.2)) δ) else none
 | .tp is,.lst ds=>if is.length = ds.length/\is.all (· < δ.length) = true then some ((is.zip ds).foldl (fun δ p=>δ.set p.1 (.val p.2)) δ) else none
 | .pr i is,.tup [a,.tup ds]=>if i < δ.length/\is.length = ds.length/\is.all (· < δ.length) = true then some ((is.zip ds).foldl (fun δ p=>δ.set p.1 (.val p.2)) (δ.set i (.val a))) else none
 | _,_=>none
noncomputable def items:D->Option (List D)
 | .lst ds=>some ds
 | .tup ds=>some ds
 | .str x=>if x.length<=sizeLine then some (x.cps.toList.map fun c=>.str ⟨#[c]⟩) else none
 | _=>none
noncomputable def nL (lo:Int) (n:Nat):List D:=(List.range n).map fun (i:Nat)=>D.int (lo+i)
noncomputable def jJ (f:D->Loc->Option (Option D × Loc)):List D->Loc->Option (List D × Loc)
 | [],δ=>some ([],δ)
 | x::xs,δ=>do
   let (o,δ1) <- f x δ
   let (ys,δ2) <- jJ f xs δ1
   return (match o with | some y=>y::ys | none=>ys,δ2)
structure Cl where
 call:Nat->List D->Option D
 gl:List D
 hf:Nat->Bool
section
variable (cx:Cl)
mutual
noncomputable def evE:E->Loc->Option (D × Loc)
 | .var i,δ=>do return (<- Bg δ i,demote δ i)
 | .pk i,δ=>do return (<- get δ i,δ)
 | .glob g,δ=>do return (<- cx.gl[g]?,δ)
 | .int i,δ=>some (.int i,δ)
 | .bl b,δ=>some (.bl b,δ)
 | .non,δ=>some (.non,δ)
 | .str x,δ=>some (.str x,δ)
 | .bin op a b,δ=>do
   let (x,δ1) <- evE a δ
   let (y,δ2) <- evE b δ1
   return (<- opD op x y,δ2)
 | .cmp op a b,δ=>do
   let (x,δ1) <- evE a δ
   let (y,δ2) <- evE b δ1
   return (.bl (<- ux op x y),δ2)
 | .and a b,δ=>do
   match <- evE a δ with
   | (.bl true,δ1)=>evE b δ1
   | (.bl false,δ1)=>some (.bl false,δ1)
   | _=>none
 | .or a b,δ=>do
   match <- evE a δ with
   | (.bl true,δ1)=>some (.bl true,δ1)
   | (.bl false,δ1)=>evE b δ1
   | _=>none
 | .not a,δ=>do
   match <- evE a δ with
   | (.bl b,δ1)=>some (.bl (!b),δ1)
   | _=>none
 | .neg a,δ=>do
   match <- evE a δ with
   | (.int i,δ1)=>some (.int (-i),δ1)
   | _=>none
 | .ssd a,δ=>do
   match <- evE a δ with
   | (.lst ds,δ1)=>if (ds.all hok && sortable (hW ds) && tot (hW ds)) = true then some (.lst (dQ (hW ds)),δ1) else none
   | _=>none
 | .ite c a b,δ=>do
   let (k,δ1) <- evT c δ
   if k then evE a δ1 else evE b δ1
 | .tup es,δ=>do
   let (ds,δ1) <- gY es δ
   if ds.length<=sizeLine then return (.tup ds,δ1) else none
 | .lst es,δ=>do
   let (ds,δ1) <- gY es δ
   if ds.length<=sizeLine then return (.lst ds,δ1) else none
 | .ix a b,δ=>do
   let (x,δ1) <- evE a δ
   let (y,δ2) <- evE b δ1
   return (<- ixD x y,δ2)
 | .sl a lo hi,δ=>do
   let (x,δ1) <- evE a δ
   let (l,δ2) <- evO lo δ1
   let (h,δ3) <- evO hi δ2
   return (<- slD x l h,δ3)
 | .call f es,δ=>do
   let (ds,δ1) <- gY es δ
   return (<- cx.call f ds,δ1)
 | .blt f es,δ=>do
   let (ds,δ1) <- gY es δ
   return (<- hX f ds,δ1)
 | .bad,_=>none
 | .comp k tg src ifs elt,δ=>do
   let (ds,δ1) <- evI src δ
   let (ys,δ2) <- jJ (fun x δ0=>do
    let δ2 <- eR (δ0++List.replicate k .no) tg x
    let (b,δ3) <- evG ifs δ2
    if b then do
     let (y,δ4) <- evE elt δ3
     return (some y,δ4.take δ0.length)
    else return (none,δ3.take δ0.length)) ds δ1
   if ys.length<=sizeLine then return (.lst ys,δ2) else none
noncomputable def evT:E->Loc->Option (Bool × Loc)
 | .and a b,δ=>do
   let (k,δ1) <- evT a δ
   if k then evT b δ1 else some (false,δ1)
 | .or a b,δ=>do
   let (k,δ1) <- evT a δ
   if k then some (true,δ1) else evT b δ1
 | .not a,δ=>do
   let (k,δ1) <- evT a δ
   return (!k,δ1)
 | .cmp op a b,δ=>do
   let (x,δ1) <- evE a δ
   let (y,δ2) <- evE b δ1
   return (<- ux op x y,δ2)
 | .var i,δ=>do
   let d <- get δ i
   return (<- tv d,δ)
 | .pk i,δ=>do
   let d <- get δ i
   return (<- tv d,δ)
 | .call f es,δ=>do
   let (ds,δ1) <- gY es δ
   let d <- cx.call f ds
   return (<- tv d,δ1)
 | .blt f es,δ=>do
   let (ds,δ1) <- gY es δ
   let d <- hX f ds
   return (<- tv d,δ1)
 | _,_=>none
noncomputable def gY:Es->Loc->Option (List D × Loc)
 | .nil,δ=>some ([],δ)
 | .cons e es,δ=>do
   let (d,δ1) <- evE e δ
   let (ds,δ2) <- gY es δ1
   return (d::ds,δ2)
noncomputable def evO:Eo->Loc->Option (Option Int × Loc)
 | .no,δ=>some (none,δ)
 | .yes e,δ=>do
   match <- evE e δ with
   | (.int i,δ1)=>some (some i,δ1)
   | _=>none
noncomputable def evG:Eo->Loc->Option (Bool × Loc)
 | .no,δ=>some (true,δ)
 | .yes e,δ=>evT e δ
noncomputable def evI:It->Loc->Option (List D × Loc)
 | .rng e,δ=>do
   match <- evE e δ with
   | (.int j,δ1)=>if -(2 ^ 62)<=j/\j < 2 ^ 62 then some (nL 0 j.toNat,δ1) else none
   | _=>none
 | .rng2 a b,δ=>do
   match <- evE a δ with
   | (.int i,δ1)=>match <- evE b δ1 with
     | (.int j,δ2)=>if -(2 ^ 62)<=i/\i < 2 ^ 62/\-(2 ^ 62)<=j/\j < 2 ^ 62 then some (nL i (j - i).toNat,δ2) else none
     | _=>none
   | _=>none
 | .sq e,δ=>do
   let (d,δ1) <- evE e δ
   return (<- items d,δ1)
end
end
inductive Out where
 | nx (δ:Loc) | rt (d:D) (δ:Loc) | bk (δ:Loc) | ct (δ:Loc) | ro (d:D) (δ:Loc)
mutual
inductive S where
 | asg (tg:Tg) (e:E)
 | new (i:Nat) (e:E)
 | ret (e:E) | retN
 | ifs (c:E) (a b:Ss)
 | for_ (tg:Tg) (src:It) (body:Ss)
 | append (i:Nat) (e:E)
 | opq (f:Cl->Loc->Option Out)
 | bad
 | pass | brk | cont
inductive Ss where
 | nil | cons (s:S) (ss:Ss)
end
noncomputable def forL (f:D->Loc->Option Out):List D->Loc->Option Out
 | [],δ=>some (.nx δ)
 | x::xs,δ=>match f x δ with
   | some (.nx δ1)=>forL f xs δ1
   | some (.ct δ1)=>forL f xs δ1
   | some (.bk δ1)=>some (.nx δ1)
   | some (.rt d δ1)=>some (.rt d δ1)
   | some (.ro ds δ1)=>some (.ro ds δ1)
   | none=>none
noncomputable def rX:Nat:=1000000
section
variable (cx:Cl)
mutual
noncomputable def evS:S->Loc->Option Out
 | .asg tg e,δ=>do
   let (d,δ1) <- evE cx e δ
   return .nx (<- eR δ1 tg d)
 | .new i e,δ=>do
   match <- evE cx e δ with
   | (.lst ds,δ1)=>if i < δ1.length then some (.nx (δ1.set i (.own ds))) else none
   | _=>none
 | .ret e,δ=>do
   let (d,δ1) <- evE cx e δ
   return .rt d δ1
 | .retN,δ=>some (.rt .non δ)
 | .ifs c a b,δ=>do
   let (k,δ1) <- evT cx c δ
   if k then dO a δ1 else dO b δ1
 | .for_ tg src body,δ=>do
   let (ds,δ1) <- evI cx src δ
   forL (fun x δ0=>match eR δ0 tg x with
    | some δ2=>dO body δ2
    | none=>none) ds δ1
 | .append i e,δ=>match δ[i]? with
   | some (.own _)=>do
     let (d,δ1) <- evE cx e δ
     match δ1[i]? with
     | some (.own ds)=>if ds.length < sizeLine then some (.nx (δ1.set i (.own (ds++[d])))) else none
     | _=>none
   | _=>none
 | .opq f,δ=>f cx δ
 | .bad,_=>none
 | .pass,δ=>some (.nx δ)
 | .brk,δ=>some (.bk δ)
 | .cont,δ=>some (.ct δ)
noncomputable def dO:Ss->Loc->Option Out
 | .nil,δ=>some (.nx δ)
 | .cons s ss,δ=>match evS s δ with
   | some (.nx δ1)=>dO ss δ1
   | o=>o
end
end
structure Fd where
 name:Str
 ps:List Str
 loc:List Str
 body:Ss
 hf:Bool:=false
noncomputable def outD:Option Out->Option D
 | some (.rt d _)=>some d
 | some (.ro d _)=>some d
 | some (.nx _)=>some .non
 | _=>none
noncomputable def Hj:Option Out->Option D
 | some (.ro d _)=>some d
 | _=>none
noncomputable def init (n:Nat) (ds:List D):Loc:=ds.map .val++List.replicate (n - ds.length) .no
noncomputable def hfs (G:List Fd) (f:Nat):Bool:=match G[f]? with
 | some fd=>fd.hf
 | none=>false
noncomputable def JY (n:Nat) (ds:List D) (k:Nat) (cs:List D):Loc:=ds.map .val++Sl.fnc k cs::List.replicate (n - (ds.length+1)) .no
noncomputable def entry (hf:Bool) (n:Nat) (ds:List D):Option Loc:=match hf with
 | false=>some (init n ds)
 | true=>match ds.getLast? with
   | some (.fn k cs)=>some (JY n ds.dropLast k cs)
   | _=>none
noncomputable def run (G:List Fd) (gl:List D):Nat->Nat->List D->Option D
 | 0,_,_=>none
 | n+1,f,ds=>match G[f]? with
   | some fd=>if ds.length = fd.ps.length then (match entry fd.hf (fd.ps++fd.loc).length ds with
     | some δ=>outD (dO ⟨run G gl n,gl,hfs G⟩ fd.body δ)
     | none=>none) else none
   | none=>match G[f - rX]? with
     | some fd=>if rX<=f/\ds.length = fd.ps.length then (match entry fd.hf (fd.ps++fd.loc).length ds with
       | some δ=>Hj (dO ⟨run G gl n,gl,hfs G⟩ fd.body δ)
       | none=>none) else none
     | none=>none
noncomputable def bG:E->Bool
 | .pk _=>true
 | _=>false
mutual
noncomputable def np:E->Bool
 | .bin _ a b | .cmp _ a b | .and a b | .or a b | .ix a b=>np a && np b
 | .not a=>np a
 | .neg a=>np a
 | .ssd a=>np a
 | .ite c a b=>np c && np a && np b
 | .tup es | .lst es | .call _ es | .blt _ es=>npS es
 | .sl a lo hi=>np a && npO lo && npO hi
 | .comp _ _ src ifs elt=>npI src && npO ifs && np elt
 | _=>true
noncomputable def npS:Es->Bool
 | .nil=>true
 | .cons e es=>np e && npS es
noncomputable def npO:Eo->Bool
 | .no=>true
 | .yes e=>np e
noncomputable def npI:It->Bool
 | .rng e=>np e
 | .rng2 a b=>np a && np b
 | .sq e=>np e
end
end PP
example:PP.evE ⟨fun _ _=>none,[],fun _=>false⟩ (.bin .add (.int 1) (.int 2)) [] = some (.int 3,[]):=rfl
end
section
namespace PP
open PySem L2
noncomputable def KLs (K:PySem.W.Frag) (a:Addr) (xs:List V):Prop:=∃ (its:Array Value) (n:Nat),K.lookup a = some ⟨.type "list",none,.seq its n,#[]⟩/\its.size<=sizeLine/\Vals xs its.toList
noncomputable def Ls (K:PySem.W.Frag) (H:Hp) (F:Addr->Prop) (a:Addr) (xs:List V):Prop:=(Rd H a (.lst xs)/\¬ F a)\/KLs K a xs
noncomputable def LsB (K:PySem.W.Frag) (H:Hp) (a:Addr) (xs:List V):Prop:=Rd H a (.lst xs)\/KLs K a xs
theorem Ls.b {K:PySem.W.Frag} {H:Hp} {F:Addr->Prop} {a:Addr} {xs:List V} (h:Ls K H F a xs):LsB K H a xs:=h.imp (·.1) id
theorem LsB.sq {K:PySem.W.Frag} {H:Hp} {a:Addr} {xs:List V} (h:LsB K H a xs):SqL K H a xs:=by
 rcases h with h | ⟨its,n,h1,h2,h3⟩
 . exact .inl h
 . exact .inr ⟨_,its,n,h1,rfl,rfl,rfl,h2,h3⟩
theorem Ls.sq {K:PySem.W.Frag} {H:Hp} {F:Addr->Prop} {a:Addr} {xs:List V} (h:Ls K H F a xs):SqL K H a xs:=h.b.sq
theorem LsB.obj {X:Cx} {pins:List (Addr × Obj)} {σ:St} {H:Hp} {s:Shared} {a:Addr} {xs:List V} (I:Inv X pins σ H s) (h:LsB X.K H a xs) :
 ∃ (its:List Value) (n:Nat),Vals xs its/\s.heap.get? a = some { cls:=.type "list",data:=.seq its.toArray n }/\xs.length<=sizeLine:=by
 rcases h with h | ⟨its,n,h1,h2,h3⟩
 . obtain ⟨z,its,n,r,e⟩:=h.ok I.hok
   exact ⟨its,n,r,e,z⟩
 . refine ⟨its.toList,n,h3,?_,?_⟩
   . have:=I.kIn a _ h1
     simpa using this
   . have:=h3.length
     rw [this]
     simpa using h2
noncomputable def zk:List Str->List V->List (Key × V)
 | k::ks,v::vs=>(.inr k,v)::zk ks vs
 | _,_=>[]
mutual
noncomputable def Rel (K:PySem.W.Frag) (H:Hp) (F:Addr->Prop):D->V->Prop
 | .non,v=>v = .non
 | .bl b,v=>v = .bl b
 | .int i,v=>v = .int i
 | .str x,v=>v = .str x
 | .lst ds,v=>∃ a xs,v = .ref a/\Ls K H F a xs/\aA K H F ds xs
 | .tup ds,v=>∃ a xs,v = .ref a/\SqT K H a xs/\aA K H F ds xs
 | .fn _ _,_=>False
 | .dct ks ds,v=>∃ a vs,v = .ref a/\Rd H a (.dK (zk ks vs))/\¬ F a/\ks.Nodup/\ks.length = ds.length/\aA K H F ds vs
noncomputable def aA (K:PySem.W.Frag) (H:Hp) (F:Addr->Prop):List D->List V->Prop
 | [],xs=>xs = []
 | d::ds,xs=>∃ y ys,xs = y::ys/\Rel K H F d y/\aA K H F ds ys
end
noncomputable def NT:HO->Prop
 | .tbl _=>False
 | _=>True
structure Sim (H H':Hp):Prop where
 nt:∀ b o,NT o->H b = some o->H' b = some o
 tb:∀ b ps,H b = some (.tbl ps)->∃ qs,H' b = some (.tbl qs)
theorem Sim.of {H H':Hp} (h:dZ H H'):Sim H H':=⟨fun b o _ e=>h b o e,fun b ps e=>⟨ps,h b _ e⟩⟩
theorem Sim.refl (H:Hp):Sim H H:=⟨fun b o _ e=>e,fun b ps e=>⟨ps,e⟩⟩
theorem Sim.trans {H H1 H2:Hp} (a:Sim H H1) (b:Sim H1 H2):Sim H H2:=⟨fun x o n e=>b.nt x o n (a.nt x o n e),fun x ps e=>by
 obtain ⟨qs,e⟩:=a.tb x ps e
 exact b.tb x qs e⟩
noncomputable def Fz (H:Hp) (a:Addr) (o:Obj):Prop:=H a = some (.frz o (.ext fun h=>h.get? a = some o))
structure Lam where
 qual:Str
 params:Arguments
 body:Expr
 scope:Scope
 ps:List Str
 caps:List Str
class Tbs where
 ts:List (Addr × Str)
 lams:List (Nat × Lam)
 gds:List (Str × List (Str × Int))
variable [Tbs]
noncomputable def Mo:HO->Prop
 | .lst _=>True
 | .ext _=>True
 | .dK _=>True
 | _=>False
noncomputable def flV:D->V
 | .bl b=>.bl b
 | .int i=>.int i
 | .str x=>.str x
 | _=>.non
noncomputable def ky (H:Hp):List Addr->List D->Prop
 | [],ds=>ds = []
 | c::r,ds=>∃ d ds' o u,ds = d::ds'/\flat d = true/\Fz H c o/\o.data = .cell (some u)/\RelV (flV d) u/\ky H r ds'
noncomputable def FnV (H:Hp) (k:Nat) (cs:List D) (a:Addr):Prop:=∃ (L:Lam) (pm ctv:Value) (c':Addr) (oc:Obj) (vs:Array Value) (tk:Tok) (cells:List Addr),
 Tbs.lams.lookup k = some L/\Fz H a (PySem.W.kla_obj "<lambda>" L.qual L.params L.body L.scope (L.caps.zip cells) pm c' ctv)/\Fz H c' oc/\oc.data = .fields vs/\vs[1]? = some (.str L.qual tk)/\cells.Nodup/\cells.length = L.caps.length/\ky H cells cs
theorem ky.keep {H H':Hp} (k:∀ a o,Fz H a o->Fz H' a o):∀ {cells:List Addr} {cs:List D},ky H cells cs->ky H' cells cs
 | [],_,h=>h
 | c::r,cs,h=>by
   obtain ⟨d,ds',o,u,e,h1,h2,h3,h4,h5⟩:=h
   exact ⟨d,ds',o,u,e,h1,k _ _ h2,h3,h4,ky.keep k h5⟩
theorem FnV.keep {H H':Hp} (k:∀ a o,Fz H a o->Fz H' a o) {n:Nat} {cs:List D} {a:Addr} (h:FnV H n cs a):FnV H' n cs a:=by
 obtain ⟨L,pm,ctv,c',oc,vs,tk,cells,h1,h2,h3,h4,h5,h6,h7,h8⟩:=h
 exact ⟨L,pm,ctv,c',oc,vs,tk,cells,h1,k _ _ h2,k _ _ h3,h4,h5,h6,h7,h8.keep k⟩
noncomputable def iC (H:Hp):Prop:=∀ t∈Tbs.ts,∃ ps,H t.1 = some (.tbl ps)/\TriplesOk ps.toList/\∀ pos cv,codeAmong pos ps.toList = some cv->∃ c o vs tk,cv = .ref c/\Fz H c o/\o.data = .fields vs/\vs[1]? = some (.str t.2 tk)
theorem iC.keep {H H':Hp} (h:iC H) (k:∀ b o,¬ Mo o->H b = some o->H' b = some o):iC H':=fun t ht=>by
 obtain ⟨ps,h1,h2,h3⟩:=h t ht
 refine ⟨ps,k _ _ (fun z=>z) h1,h2,fun pos cv e=>?_⟩
 obtain ⟨c,o,vs,tk,e1,e2,e3⟩:=h3 pos cv e
 exact ⟨c,o,vs,tk,e1,k _ _ (fun z=>z) e2,e3⟩
noncomputable def FD (F:Addr->Prop) (H:Hp):Prop:=∀ b,F b->∃ o,H b = some o/\(Mo o\/(∃ ps,o = .tbl ps)/\∃ t∈Tbs.ts,t.1 = b)
theorem FD.not {F:Addr->Prop} {H:Hp} (fd:FD F H) {a:Addr} {o:HO} (e:H a = some o) (n:¬ Mo o) (t:NT o):¬ F a:=fun z=>by
 obtain ⟨u,e2,h⟩:=fd a z
 rw [e] at e2
 cases e2
 rcases h with h | ⟨⟨ps,rfl⟩,_⟩
 . exact n h
 . exact t
theorem FD.none {F:Addr->Prop} {H:Hp} (fd:FD F H) {a:Addr} (e:H a = Option.none):¬ F a:=fun z=>by
 obtain ⟨u,e2,_⟩:=fd a z
 rw [e] at e2
 cases e2
noncomputable def TF (F:Addr->Prop):Prop:=∀ t∈Tbs.ts,F t.1
structure Gh where
 h:Hp
 R:Addr->Prop
noncomputable def Gh.free (G:Gh) (a:Addr):Prop:=G.h a = none/\¬ G.R a
noncomputable def g0:Gh:=⟨fun _=>none,fun _=>False⟩
structure Step (G:Gh) (F:Addr->Prop) (H:Hp) (F':Addr->Prop) (H':Hp):Prop where
 keep:∀ b o,NT o->H b = some o->¬ F b->H' b = some o
 grow:∀ b,F' b->F b\/H b = none
 res:∀ b o,G.R b->F b->H b = some o->F' b/\H' b = some o
 tb:∀ b ps,H b = some (.tbl ps)->∃ qs,H' b = some (.tbl qs)
theorem Step.refl {G:Gh} {F:Addr->Prop} {H:Hp}:Step G F H F H:=⟨fun _ _ _ h _=>h,fun _ h=>.inl h,fun _ _ _ h e=>⟨h,e⟩,fun _ ps e=>⟨ps,e⟩⟩
theorem Step.trans {G:Gh} {H H1 H2:Hp} {F F1 F2:Addr->Prop} (a:Step G F H F1 H1) (b:Step G F1 H1 F2 H2):Step G F H F2 H2 where
 keep:=fun x o t h n=>b.keep x o t (a.keep x o t h n) fun z=>by
  rcases a.grow x z with q | q
  . exact n q
  . rw [h] at q;cases q
 grow:=fun x h=>by
  rcases b.grow x h with q | q
  . exact a.grow x q
  . by_cases f:F x
    . exact .inl f
    . right
      cases e:H x with
      | none=>rfl
      | some o =>
        by_cases t:NT o
        . rw [a.keep x o t e f] at q;cases q
        . cases o<;>first | (exact absurd trivial t) | skip
          obtain ⟨qs,z⟩:=a.tb x _ e
          rw [z] at q;cases q
 res:=fun x o r h e=>by
  obtain ⟨h1,e1⟩:=a.res x o r h e
  exact b.res x o r h1 e1
 tb:=fun x ps e=>by
  obtain ⟨qs,e⟩:=a.tb x ps e
  exact b.tb x qs e
theorem Step.of_same {G:Gh} {H H':Hp} {F:Addr->Prop} (h:dZ H H'):Step G F H F H':=⟨fun b o _ e _=>h b o e,fun _ h=>.inl h,fun b o _ f e=>⟨f,h b o e⟩,fun b ps e=>⟨ps,h b _ e⟩⟩
section
variable {K:PySem.W.Frag} {G:Gh} {H H':Hp} {F F':Addr->Prop}
theorem vd {a:Addr} {u:HO} (t:NT u) (k:∀ b o,NT o->H b = some o->¬ F b->H' b = some o) (n:¬ F a) (h:Rd H a u):Rd H' a u:=by
 rcases h with h | ⟨o,h⟩
 . exact .inl (k a _ t h n)
 . exact .inr ⟨o,k a _ trivial h n⟩
theorem rk {a:Addr} {xs:List V} (fd:FD F H) (k:∀ b o,NT o->H b = some o->¬ F b->H' b = some o) (h:SqT K H a xs):SqT K H' a xs:=by
 rcases h with h | h
 . refine .inl (vd trivial k (fun z=>?_) h)
   rcases h with h | ⟨o,h⟩
   . exact fd.not h (fun z=>z) trivial z
   . exact fd.not h (fun z=>z) trivial z
 . exact .inr h
theorem Ls.step {a:Addr} {xs:List V} (s:Step G F H F' H') (h:Ls K H F a xs):Ls K H' F' a xs:=by
 rcases h with ⟨h1,h2⟩ | h
 . refine .inl ⟨vd trivial s.keep h2 h1,fun z=>?_⟩
   rcases s.grow a z with q | q
   . exact h2 q
   . rcases h1 with h | ⟨o,h⟩
     . rw [h] at q;cases q
     . rw [h] at q;cases q
 . exact .inr h
theorem lB (fd:FD F H) (k:∀ b o,NT o->H b = some o->¬ F b->H' b = some o):∀ a o,Fz H a o->Fz H' a o:=fun a o h=>by
 exact k a _ trivial h (fd.not h (fun z=>z) trivial)
mutual
theorem Rel.step (fd:FD F H) (s:Step G F H F' H'):∀ (d:D) (v:V),Rel K H F d v->Rel K H' F' d v
 | .non,v,h=>by unfold Rel at h ⊢;exact h
 | .bl b,v,h=>by unfold Rel at h ⊢;exact h
 | .int i,v,h=>by unfold Rel at h ⊢;exact h
 | .str x,v,h=>by unfold Rel at h ⊢;exact h
 | .lst ds,v,h=>by
   unfold Rel at h ⊢
   obtain ⟨a,xs,e,h1,h3⟩:=h
   exact ⟨a,xs,e,h1.step s,aA.step fd s ds xs h3⟩
 | .tup ds,v,h=>by
   unfold Rel at h ⊢
   obtain ⟨a,xs,e,h1,h3⟩:=h
   exact ⟨a,xs,e,rk fd s.keep h1,aA.step fd s ds xs h3⟩
 | .fn _ _,v,h=>by unfold Rel at h;exact h.elim
 | .dct ks ds,v,h=>by
   unfold Rel at h ⊢
   obtain ⟨a,vs,e,h1,h2,h3,h4,h5⟩:=h
   refine ⟨a,vs,e,h1.elim (fun h1=>.inl (s.keep a _ trivial h1 h2)) fun ⟨o,h1⟩=>.inr ⟨o,s.keep a _ trivial h1 h2⟩,fun z=>?_,h3,h4,aA.step fd s ds vs h5⟩
   rcases s.grow a z with q | q
   . exact h2 q
   . rcases h1 with h1 | ⟨o,h1⟩<;>(rw [h1] at q;cases q)
theorem aA.step (fd:FD F H) (s:Step G F H F' H'):∀ (ds:List D) (xs:List V),aA K H F ds xs->aA K H' F' ds xs
 | [],xs,h=>by unfold aA at h ⊢;exact h
 | d::ds,xs,h=>by
   unfold aA at h ⊢
   obtain ⟨y,ys,e,h1,h2⟩:=h
   exact ⟨y,ys,e,Rel.step fd s d y h1,aA.step fd s ds ys h2⟩
end
theorem Rel.less (fd:FD F H) (hs:∀ b,F' b->F b) {d:D} {v:V} (h:Rel K H F d v):Rel K H F' d v :=
 Rel.step (G:=g0) fd ⟨fun _ _ _ h _=>h,fun b z=>.inl (hs b z),fun _ _ r _ _=>r.elim,fun _ ps e=>⟨ps,e⟩⟩ d v h
theorem aA.less (fd:FD F H) (hs:∀ b,F' b->F b) {ds:List D} {xs:List V} (h:aA K H F ds xs):aA K H F' ds xs :=
 aA.step (G:=g0) fd ⟨fun _ _ _ h _=>h,fun b z=>.inl (hs b z),fun _ _ r _ _=>r.elim,fun _ ps e=>⟨ps,e⟩⟩ ds xs h
mutual
theorem Rel.free (fd:FD F' H):∀ (d:D) (v:V),lf d = true->Rel K H F d v->Rel K H F' d v
 | .non,v,_,h=>by unfold Rel at h ⊢;exact h
 | .bl b,v,_,h=>by unfold Rel at h ⊢;exact h
 | .int i,v,_,h=>by unfold Rel at h ⊢;exact h
 | .str x,v,_,h=>by unfold Rel at h ⊢;exact h
 | .lst ds,v,l,h=>by unfold lf at l;cases l
 | .tup ds,v,l,h=>by
   unfold lf at l
   unfold Rel at h ⊢
   obtain ⟨a,xs,e,h1,h3⟩:=h
   exact ⟨a,xs,e,h1,aA.free fd ds xs l h3⟩
 | .fn _ _,v,l,h=>by unfold lf at l;cases l
 | .dct _ _,v,l,h=>by unfold lf at l;cases l
theorem aA.free (fd:FD F' H):∀ (ds:List D) (xs:List V),lfL ds = true->aA K H F ds xs->aA K H F' ds xs
 | [],xs,_,h=>by unfold aA at h ⊢;exact h
 | d::ds,xs,l,h=>by
   unfold lfL at l
   rw [aa] at l
   unfold aA at h ⊢
   obtain ⟨y,ys,e,h1,h2⟩:=h
   exact ⟨y,ys,e,Rel.free fd d y l.1 h1,aA.free fd ds ys l.2 h2⟩
end
theorem aA.length:∀ {ds:List D} {xs:List V},aA K H F ds xs->xs.length = ds.length
 | [],xs,h=>by unfold aA at h;subst h;rfl
 | d::ds,xs,h=>by
   unfold aA at h
   obtain ⟨y,ys,e,_,h2⟩:=h
   subst e
   rw [aw,aw,aA.length h2]
theorem aA.get:∀ {ds:List D} {xs:List V} {i:Nat} {d:D},aA K H F ds xs->ds[i]? = some d->∃ v,xs[i]? = some v/\Rel K H F d v
 | [],_,_,_,_,e=>by simp at e
 | d::ds,xs,i,d',h,e=>by
   unfold aA at h
   obtain ⟨y,ys,q,h1,h2⟩:=h
   subst q
   cases i with
   | zero=>simp at e;subst e;exact ⟨y,rfl,h1⟩
   | succ i =>
     obtain ⟨v,h3,h4⟩:=aA.get (i:=i) h2 (by simpa using e)
     exact ⟨v,by simpa using h3,h4⟩
theorem aA.append:∀ {ds es:List D} {xs ys:List V},aA K H F ds xs->aA K H F es ys->aA K H F (ds++es) (xs++ys)
 | [],es,xs,ys,h,h'=>by unfold aA at h;subst h;exact h'
 | d::ds,es,xs,ys,h,h'=>by
   unfold aA at h
   obtain ⟨y,zs,q,h1,h2⟩:=h
   subst q
   show aA K H F (d::(ds++es)) (y::(zs++ys))
   unfold aA
   exact ⟨y,zs++ys,rfl,h1,aA.append h2 h'⟩
theorem aA.one {d:D} {v:V} (h:Rel K H F d v):aA K H F [d] [v]:=by
 unfold aA
 exact ⟨v,[],rfl,h,by unfold aA;rfl⟩
theorem aA.nil:aA K H F [] []:=by unfold aA;rfl
theorem aA.cons {d:D} {v:V} {ds:List D} {xs:List V} (h:Rel K H F d v) (t:aA K H F ds xs):aA K H F (d::ds) (v::xs):=by
 unfold aA
 exact ⟨v,xs,rfl,h,t⟩
theorem aA.take:∀ {ds:List D} {xs:List V} (n:Nat),aA K H F ds xs->aA K H F (ds.take n) (xs.take n)
 | [],xs,n,h=>by unfold aA at h;subst h;simp;exact aA.nil
 | d::ds,xs,0,h=>by simp;exact aA.nil
 | d::ds,xs,n+1,h=>by
   unfold aA at h
   obtain ⟨y,ys,q,h1,h2⟩:=h
   subst q
   rw [jo,jo]
   exact aA.cons h1 (aA.take n h2)
theorem aA.drop:∀ {ds:List D} {xs:List V} (n:Nat),aA K H F ds xs->aA K H F (ds.drop n) (xs.drop n)
 | [],xs,n,h=>by unfold aA at h;subst h;simp;exact aA.nil
 | d::ds,xs,0,h=>h
 | d::ds,xs,n+1,h=>by
   unfold aA at h
   obtain ⟨y,ys,q,h1,h2⟩:=h
   subst q
   rw [yv,yv]
   exact aA.drop n h2
theorem aA.set {d:D} {v:V} (r:Rel K H F d v):∀ {ds:List D} {xs:List V} (n:Nat),aA K H F ds xs->aA K H F (ds.set n d) (xs.set n v)
 | [],xs,n,h=>by unfold aA at h;subst h;simp;exact aA.nil
 | e::ds,xs,0,h=>by
   unfold aA at h
   obtain ⟨y,ys,q,h1,h2⟩:=h
   subst q
   exact aA.cons r h2
 | e::ds,xs,n+1,h=>by
   unfold aA at h
   obtain ⟨y,ys,q,h1,h2⟩:=h
   subst q
   exact aA.cons h1 (aA.set r n h2)
theorem aA.dropLast {ds:List D} {xs:List V} (h:aA K H F ds xs):aA K H F ds.dropLast xs.dropLast:=by
 rw [uK,uK,h.length]
 exact h.take _
theorem aA.cut {ds:List D} {xs:List V} (lo hi:Option Int) (h:aA K H F ds xs):aA K H F (cutD ds lo hi) (nQ xs lo hi):=by
 unfold cutD nQ
 rw [h.length]
 exact (h.drop _).take _
end
noncomputable def cU (K:PySem.W.Frag) (H:Hp) (F:Addr->Prop) (d:D) (v:V):Prop:=Rel K H F d v\/∃ a xs ds,d = .lst ds/\v = .ref a/\H a = some (.lst xs)/\aA K H F ds xs
noncomputable def RelM (m:Bool) (K:PySem.W.Frag) (H:Hp) (F:Addr->Prop) (d:D) (v:V):Prop:=if m = true then cU K H F d v else Rel K H F d v
theorem RelM.b {m:Bool} {K:PySem.W.Frag} {H:Hp} {F:Addr->Prop} {d:D} {v:V} (h:RelM m K H F d v):cU K H F d v:=by
 unfold RelM at h
 split at h
 . exact h
 . exact .inl h
theorem cU.same {K:PySem.W.Frag} {G:Gh} {H H':Hp} {F F':Addr->Prop} {d:D} {v:V} (fd:FD F H) (s:Step G F H F' H') (k:Sim H H') (h:cU K H F d v):cU K H' F' d v:=by
 rcases h with h | ⟨a,xs,ds,e1,e2,h1,h2⟩
 . exact .inl (Rel.step fd s d v h)
 . exact .inr ⟨a,xs,ds,e1,e2,k.nt _ _ trivial h1,aA.step fd s ds xs h2⟩
theorem RelM.step {m:Bool} {K:PySem.W.Frag} {G:Gh} {H H':Hp} {F F':Addr->Prop} {d:D} {v:V} (fd:FD F H) (s:Step G F H F' H') (k:m = true->Sim H H') (h:RelM m K H F d v):RelM m K H' F' d v:=by
 cases m with
 | true=>exact cU.same fd s (k rfl) h
 | false=>exact Rel.step fd s d v h
noncomputable def dh (K:PySem.W.Frag) (G:Gh) (F:Addr->Prop) (H:Hp) (o:Option (Option V)):Sl->Prop
 | .no=>True
 | .val d=>∃ v,o = some (some v)/\Rel K H F d v
 | .own ds=>∃ a xs,o = some (some (.ref a))/\F a/\G.free a/\H a = some (.lst xs)/\aA K H F ds xs
 | .fnc k cs=>∃ a,o = some (some (.ref a))/\FnV H k cs a
 | .odc ks ds=>∃ a vs,o = some (some (.ref a))/\F a/\G.free a/\H a = some (.dK (zk ks vs))/\ks.Nodup/\ks.length = ds.length/\aA K H F ds vs
noncomputable def ow:Sl->Bool
 | .own _=>true
 | .odc _ _=>true
 | _=>false
structure Ok (K:PySem.W.Frag) (G:Gh) (F:Addr->Prop) (σ:St) (H:Hp) (δ:Loc):Prop where
 same:Sim G.h H
 fd:FD F H
 rf:∀ b,G.R b->F b
 rl:∀ b,G.R b->∃ o,H b = some o/\Mo o
 tf:TF F
 tabs:iC H
 len:δ.length = σ.length
 sl:∀ (i:Nat) (s:Sl),δ[i]? = some s->dh K G F H σ[i]? s
 apart:∀ (i j:Nat) (s t:Sl) (a:Addr),δ[i]? = some s->δ[j]? = some t->ow s = true->ow t = true->σ[i]? = some (some (.ref a))->σ[j]? = some (some (.ref a))->i = j
section
variable {K:PySem.W.Frag} {G:Gh} {H H':Hp} {F F':Addr->Prop} {σ:St} {δ:Loc}
theorem dh.same {o:Option (Option V)} (fd:FD F H) (k:dZ H H'):∀ {s:Sl},dh K G F H o s->dh K G F H' o s
 | .no,_=>trivial
 | .val d,h=>by
   obtain ⟨v,e,h⟩:=h
   exact ⟨v,e,Rel.step (G:=G) fd (Step.of_same k) d v h⟩
 | .own ds,h=>by
   obtain ⟨a,xs,e,h1,h2,h3,h4⟩:=h
   exact ⟨a,xs,e,h1,h2,k _ _ h3,aA.step (G:=G) fd (Step.of_same k) ds xs h4⟩
 | .fnc n cs,h=>by
   obtain ⟨a,e,h⟩:=h
   exact ⟨a,e,h.keep fun a o z=>k _ _ z⟩
 | .odc ks ds,h=>by
   obtain ⟨a,xs,e,h1,h2,h3,h4,h5,h6⟩:=h
   exact ⟨a,xs,e,h1,h2,k _ _ h3,h4,h5,aA.step (G:=G) fd (Step.of_same k) ds xs h6⟩
theorem FD.same (fd:FD F H) (k:dZ H H'):FD F H':=fun b h=>by
 obtain ⟨o,e,q⟩:=fd b h
 exact ⟨o,k _ _ e,q⟩
theorem vc {P:Addr->Prop} (h:∀ b,P b->∃ o,H b = some o/\Mo o) (k:dZ H H'):∀ b,P b->∃ o,H' b = some o/\Mo o:=fun b z=>by
 obtain ⟨o,e,q⟩:=h b z
 exact ⟨o,k _ _ e,q⟩
theorem Ok.same' (h:Ok K G F σ H δ) (k:dZ H H'):Ok K G F σ H' δ :=
 ⟨h.same.trans (.of k),h.fd.same k,h.rf,vc h.rl k,h.tf,h.tabs.keep fun b o _ e=>k b o e,h.len,fun i s e=>(h.sl i s e).same h.fd k,h.apart⟩
theorem cj {H:Hp} {p:Addr} (h:H p = none) (o:HO):dZ H (upd H p o):=fun b u q=>by rw [aV (fi q h)];exact q
theorem dh.less {o:Option (Option V)} (fd:FD F H) (hs:∀ b,F' b->F b):∀ {s:Sl},(∀ a,ow s = true->o = some (some (.ref a))->F' a)->dh K G F H o s->dh K G F' H o s
 | .no,_,_=>trivial
 | .val d,_,h=>by
   obtain ⟨v,e,h⟩:=h
   exact ⟨v,e,Rel.less fd hs h⟩
 | .own ds,q,h=>by
   obtain ⟨a,xs,e,h1,h2,h3,h4⟩:=h
   exact ⟨a,xs,e,q a rfl e,h2,h3,aA.less fd hs h4⟩
 | .fnc n cs,_,h=>h
 | .odc ks ds,q,h=>by
   obtain ⟨a,xs,e,h1,h2,h3,h4,h5,h6⟩:=h
   exact ⟨a,xs,e,q a rfl e,h2,h3,h4,h5,aA.less fd hs h6⟩
inductive dN (K:PySem.W.Frag) (H:Hp) (F:Addr->Prop):D->HO->Prop
 | lst {ds:List D} {xs:List V}:aA K H F ds xs->dN K H F (.lst ds) (.lst xs)
 | dct {ks:List Str} {ds:List D} {vs:List V}:ks.Nodup->ks.length = ds.length->aA K H F ds vs->dN K H F (.dct ks ds) (.dK (zk ks vs))
noncomputable def owS:D->Sl
 | .lst ds=>.own ds
 | .dct ks ds=>.odc ks ds
 | _=>.no
theorem DF {d d':D} (h:ow (owS d) = true) (e:owS d = owS d'):d = d':=by
 cases d<;>first | (cases h;done) | skip
 . cases d'<;>first | (cases e;rfl) | cases e
 . cases d'<;>first | (cases e;rfl) | cases e
theorem dN.mo {d:D} {o:HO} (h:dN K H F d o):Mo o/\ow (owS d) = true:=by
 cases h<;>exact ⟨trivial,rfl⟩
theorem dN.step (fd:FD F H) (s:Step G F H F' H') {d:D} {o:HO} (h:dN K H F d o):dN K H' F' d o:=by
 cases h with
 | lst h=>exact .lst (aA.step fd s _ _ h)
 | dct h1 h2 h3=>exact .dct h1 h2 (aA.step fd s _ _ h3)
theorem dN.sl {o:Option (Option V)} {a:Addr} {d:D} {u:HO} (e:o = some (some (.ref a))) (hF:F a) (hg:G.free a) (h:H a = some u) (r:dN K H F d u):dh K G F H o (owS d):=by
 cases r with
 | lst r=>exact ⟨a,_,e,hF,hg,h,r⟩
 | dct h1 h2 h3=>exact ⟨a,_,e,hF,hg,h,h1,h2,h3⟩
theorem dh.ow {o:Option (Option V)} {s:Sl} (h:dh K G F H o s) (q:ow s = true):∃ a u d,o = some (some (.ref a))/\F a/\G.free a/\H a = some u/\dN K H F d u/\s = owS d:=by
 cases s with
 | own ds =>
   obtain ⟨a,xs,e,h1,h2,h3,h4⟩:=h
   exact ⟨a,_,.lst ds,e,h1,h2,h3,.lst h4,rfl⟩
 | odc ks ds =>
   obtain ⟨a,xs,e,h1,h2,h3,h4,h5,h6⟩:=h
   exact ⟨a,_,.dct ks ds,e,h1,h2,h3,.dct h4 h5 h6,rfl⟩
 | _=>cases q
theorem dh.stay0 {G':Gh} {o:Option (Option V)} (fd:FD F H) (st:Step G' F H F' H') (k:∀ a u,o = some (some (.ref a))->F a->G.free a->H a = some u->F' a/\H' a = some u):∀ {s:Sl},dh K G F H o s->dh K G F' H' o s
 | .no,_=>trivial
 | .fnc n cs,h=>by
   obtain ⟨v,e,z⟩:=h
   exact ⟨v,e,z.keep (lB fd st.keep)⟩
 | .val d,h=>by
   obtain ⟨v,e,z⟩:=h
   exact ⟨v,e,Rel.step fd st d v z⟩
 | .own ds,h=>by
   obtain ⟨a,u,d,e,h1,h2,h3,h4,e5⟩:=dh.ow h rfl
   rw [e5]
   obtain ⟨k1,k2⟩:=k a u e h1 h2 h3
   exact dN.sl e k1 h2 k2 (h4.step fd st)
 | .odc ks ds,h=>by
   obtain ⟨a,u,d,e,h1,h2,h3,h4,e5⟩:=dh.ow h rfl
   rw [e5]
   obtain ⟨k1,k2⟩:=k a u e h1 h2 h3
   exact dN.sl e k1 h2 k2 (h4.step fd st)
theorem dh.stay {o:Option (Option V)} (fd:FD F H) (st:Step G F H F' H') (k:∀ a u,o = some (some (.ref a))->F a->G.free a->H a = some u->F' a/\H' a = some u) {s:Sl} (h:dh K G F H o s):dh K G F' H' o s:=dh.stay0 fd st k h
theorem dh.free {G':Gh} {o:Option (Option V)} (k:∀ a,F a->G.free a->G'.free a):∀ {s:Sl},dh K G F H o s->dh K G' F H o s
 | .no,_=>trivial
 | .fnc n cs,h=>h
 | .val d,h=>h
 | .own ds,h=>by
   obtain ⟨a,xs,e,h1,h2,h3⟩:=h
   exact ⟨a,xs,e,h1,k a h1 h2,h3⟩
 | .odc ks ds,h=>by
   obtain ⟨a,xs,e,h1,h2,h3⟩:=h
   exact ⟨a,xs,e,h1,k a h1 h2,h3⟩
theorem dN.rel (fd:FD F H) (hs:∀ b,F' b->F b) {a:Addr} (n:¬ F' a) {d:D} {u:HO} (h:H a = some u) (r:dN K H F d u):Rel K H F' d (.ref a):=by
 cases r with
 | lst r =>
   unfold Rel
   exact ⟨a,_,rfl,.inl ⟨.inl h,n⟩,aA.less fd hs r⟩
 | dct h1 h2 h3 =>
   unfold Rel
   exact ⟨a,_,rfl,.inl h,n,h1,h2,aA.less fd hs h3⟩
theorem eA {α:Type} {l:List α} {i j:Nat} {x y:α} (hi:i < l.length) (q:(l.set i x)[j]? = some y):(j = i/\y = x)\/(j≠i/\l[j]? = some y):=by
 by_cases hj:j = i
 . subst hj
   rw [bH hi] at q
   cases q
   exact .inl ⟨rfl,rfl⟩
 . rw [aK (Ne.symm hj)] at q
   exact .inr ⟨hj,q⟩
theorem Ok.demote (h:Ok K G F σ H δ) {i:Nat} {d:D} {a:Addr} (e:δ[i]? = some (owS d)) (eo:ow (owS d) = true) (ea:σ[i]? = some (some (.ref a))) :
 Ok K G (fun b=>F b/\b≠a) σ H (δ.set i (.val d))/\Rel K H (fun b=>F b/\b≠a) d (.ref a):=by
 have hi:i < δ.length:=(aE.mp e).1
 obtain ⟨a',u,d',e1,h1,h2,h3,h4,ed⟩:=dh.ow (h.sl i _ e) eo
 rw [ea] at e1;cases e1
 have ed:=DF eo ed
 subst ed
 have hs:∀ b,(F b/\b≠a)->F b:=fun b z=>z.1
 have r:Rel K H (fun b=>F b/\b≠a) d (.ref a):=dN.rel h.fd hs (fun z=>z.2 rfl) h3 h4
 have tf':TF fun b=>F b/\b≠a:=fun t ht=>⟨h.tf t ht,fun w=>by
  obtain ⟨ps,e2,_⟩:=h.tabs t ht
  rw [w,h3] at e2;cases e2
  exact h4.mo.1⟩
 refine ⟨⟨h.same,fun b z=>h.fd b z.1,fun b z=>⟨h.rf b z,fun w=>h2.2 (by rw [<- w];exact z)⟩,h.rl,tf',h.tabs,by rw [bb];exact h.len,fun j s q=>?_,fun j k s t b q1 q2 o1 o2 p1 p2=>?_⟩,r⟩
 . rcases eA hi q with ⟨rfl,rfl⟩ | ⟨hj,q⟩
   . exact ⟨.ref a,ea,r⟩
   . refine (h.sl j s q).less h.fd hs fun b z zb=>?_
     obtain ⟨b',u',d',e1,f1,_⟩:=dh.ow (h.sl j _ q) z
     rw [zb] at e1;cases e1
     exact ⟨f1,fun w=>hj (h.apart j i _ _ a q e z eo (by rw [zb,w]) ea)⟩
 . rcases eA hi q1 with ⟨rfl,rfl⟩ | ⟨hj,q1⟩
   . cases o1
   . rcases eA hi q2 with ⟨rfl,rfl⟩ | ⟨hk,q2⟩
     . cases o2
     . exact h.apart j k s t b q1 q2 o1 o2 p1 p2
theorem Ok.set (h:Ok K G F σ H δ) {i:Nat} {d:D} {v:V} (hi:i < δ.length) (r:Rel K H F d v):Ok K G F (σ.set i (some v)) H (δ.set i (.val d)):=by
 have hi':i < σ.length:=by rw [<- h.len];exact hi
 refine ⟨h.same,h.fd,h.rf,h.rl,h.tf,h.tabs,by rw [bb,bb];exact h.len,fun j s q=>?_,fun j k s t b q1 q2 o1 o2 p1 p2=>?_⟩
 . rcases eA hi q with ⟨rfl,rfl⟩ | ⟨hj,q⟩
   . exact ⟨v,by rw [bH hi'],r⟩
   . rw [aK (Ne.symm hj)]
     exact h.sl j s q
 . rcases eA hi q1 with ⟨rfl,rfl⟩ | ⟨hj,q1⟩
   . cases o1
   . rcases eA hi q2 with ⟨rfl,rfl⟩ | ⟨hk,q2⟩
     . cases o2
     . rw [aK (Ne.symm hj)] at p1
       rw [aK (Ne.symm hk)] at p2
       exact h.apart j k s t b q1 q2 o1 o2 p1 p2
theorem Ok.ownO (h:Ok K G F σ H δ) {i:Nat} {d:D} {u:HO} {p:Addr} (hi:i < δ.length) (hp:F p) (hg:G.free p) (e:H p = some u) (r:dN K H F d u)
 (hn:∀ (j:Nat) s,δ[j]? = some s->ow s = true->σ[j]?≠some (some (.ref p))):Ok K G F (σ.set i (some (.ref p))) H (δ.set i (owS d)):=by
 have hi':i < σ.length:=by rw [<- h.len];exact hi
 refine ⟨h.same,h.fd,h.rf,h.rl,h.tf,h.tabs,by rw [bb,bb];exact h.len,fun j s q=>?_,fun j k s t b q1 q2 o1 o2 p1 p2=>?_⟩
 . rcases eA hi q with ⟨rfl,rfl⟩ | ⟨hj,q⟩
   . exact dN.sl (by rw [bH hi']) hp hg e r
   . rw [aK (Ne.symm hj)]
     exact h.sl j s q
 . rcases eA hi q1 with ⟨rfl,rfl⟩ | ⟨hj,q3⟩
   . rcases eA hi q2 with ⟨rfl,rfl⟩ | ⟨hk,q2⟩
     . rfl
     . rw [bH hi'] at p1
       rw [aK (Ne.symm hk)] at p2
       cases p1
       exact (hn k t q2 o2 p2).elim
   . rw [aK (Ne.symm hj)] at p1
     rcases eA hi q2 with ⟨rfl,rfl⟩ | ⟨hk,q2⟩
     . rw [bH hi'] at p2
       cases p2
       exact (hn j s q3 o1 p1).elim
     . rw [aK (Ne.symm hk)] at p2
       exact h.apart j k s t b q3 q2 o1 o2 p1 p2
theorem Ok.own (h:Ok K G F σ H δ) {i:Nat} {ds:List D} {xs:List V} {p:Addr} (hi:i < δ.length) (hp:F p) (hg:G.free p) (e:H p = some (.lst xs)) (r:aA K H F ds xs)
 (hn:∀ (j:Nat) s,δ[j]? = some s->ow s = true->σ[j]?≠some (some (.ref p))):Ok K G F (σ.set i (some (.ref p))) H (δ.set i (.own ds)):=h.ownO (d:=.lst ds) hi hp hg e (.lst r) hn
theorem Ok.writeO (h:Ok K G F σ H δ) {i:Nat} {d d':D} {a:Addr} {u:HO} (e:δ[i]? = some (owS d)) (eo:ow (owS d) = true) (ea:σ[i]? = some (some (.ref a))) (r:dN K H F d' u) :
 Ok K G F σ (upd H a u) (δ.set i (owS d'))/\Step G F H F (upd H a u):=by
 have hi:i < δ.length:=(aE.mp e).1
 have e':=e
 obtain ⟨a',x,d0,e1,h1,h2,h3,h4,_⟩:=dh.ow (h.sl i _ e) eo
 rw [ea] at e1;cases e1
 have nt:NT x:=by
  have m:=h4.mo.1
  cases x<;>first | trivial | exact m
 have st:Step G F H F (upd H a u):=⟨fun b o _ q n=>by
  rw [aV (fun z:b = a=>n (by rw [z];exact h1))];exact q,fun b z=>.inl z,fun b o r z e=>⟨z,by rw [aV (fun w:b = a=>h2.2 (by rw [<- w];exact r))];exact e⟩,fun b ps e=>⟨ps,by rw [aV (fun w:b = a=>by rw [w,h3] at e;cases e;exact nt)];exact e⟩⟩
 have tb':iC (upd H a u):=h.tabs.keep fun b o n e=>by rw [aV (fun w:b = a=>by rw [w,h3] at e;cases e;exact n h4.mo.1)];exact e
 refine ⟨⟨⟨fun b o t q=>?_,fun b ps q=>?_⟩,fun b z=>?_,h.rf,fun b z=>?_,h.tf,tb',by rw [bb];exact h.len,fun j s q=>?_,fun j k s t b q1 q2 o1 o2 p1 p2=>?_⟩,st⟩
 . have:=h.same.nt b o t q
   rw [aV (fun z:b = a=>by rw [z,h2.1] at q;cases q)]
   exact this
 . rw [aV (fun z:b = a=>by rw [z,h2.1] at q;cases q)]
   exact h.same.tb b ps q
 . by_cases hb:b = a
   . subst hb;exact ⟨u,bt,.inl r.mo.1⟩
   . rw [aV hb];exact h.fd b z
 . by_cases hb:b = a
   . subst hb;exact ⟨u,bt,r.mo.1⟩
   . rw [aV hb];exact h.rl b z
 . rcases eA hi q with ⟨rfl,rfl⟩ | ⟨hj,q⟩
   . exact dN.sl ea h1 h2 bt (r.step h.fd st)
   . cases eq:ow s with
     | true =>
       refine dh.stay h.fd st (fun b v e f1 f2 f3=>⟨f1,?_⟩) (h.sl j s q)
       rw [aV (fun w:b = a=>hj (h.apart j i _ _ a q e' eq eo (by rw [e,w]) ea))]
       exact f3
     | false =>
       have z:=h.sl j s q
       cases s with
       | no=>trivial
       | fnc n cs =>
         obtain ⟨v,e,z⟩:=z
         exact ⟨v,e,z.keep (lB h.fd st.keep)⟩
       | val d =>
         obtain ⟨v,e,z⟩:=z
         exact ⟨v,e,Rel.step h.fd st d v z⟩
       | own _=>cases eq
       | odc _ _=>cases eq
 . have un:∀ (m:Nat) (g:Sl),(δ.set i (owS d'))[m]? = some g->ow g = true->∃ g',δ[m]? = some g'/\ow g' = true:=fun m g q o=>by
    rcases eA hi q with ⟨rfl,rfl⟩ | ⟨hj,q⟩
    . exact ⟨_,e,eo⟩
    . exact ⟨g,q,o⟩
   obtain ⟨g1,q1,o1⟩:=un j _ q1 o1
   obtain ⟨g2,q2,o2⟩:=un k _ q2 o2
   exact h.apart j k g1 g2 b q1 q2 o1 o2 p1 p2
theorem Ok.write (h:Ok K G F σ H δ) {i:Nat} {ds es:List D} {a:Addr} {ys:List V} (e:δ[i]? = some (.own ds)) (ea:σ[i]? = some (some (.ref a))) (r:aA K H F es ys) :
 Ok K G F σ (upd H a (.lst ys)) (δ.set i (.own es))/\Step G F H F (upd H a (.lst ys)):=h.writeO (d:=.lst ds) (d':=.lst es) e rfl ea (.lst r)
theorem Mo.nt {o:HO} (m:Mo o):NT o:=by
 cases o<;>first | trivial | exact m
theorem Step.of_sim (rl:∀ b,G.R b->∃ o,H b = some o/\Mo o) (k:Sim H H'):Step G F H F H':=⟨fun b o t e _=>k.nt b o t e,fun b z=>.inl z,fun b o r f e=>⟨f,by
 obtain ⟨u,e2,m⟩:=rl b r
 rw [e] at e2
 cases e2
 exact k.nt b _ m.nt e⟩,k.tb⟩
theorem Ok.call (h:Ok K G F σ H δ) (k:Sim H H') (t:iC H'):Ok K G F σ H' δ/\Step G F H F H':=by
 have st:Step G F H F H':=Step.of_sim h.rl k
 refine ⟨⟨h.same.trans k,fun b z=>?_,h.rf,fun b z=>?_,h.tf,t,h.len,fun i s e=>?_,h.apart⟩,st⟩
 . obtain ⟨o,e,m⟩:=h.fd b z
   rcases m with m | ⟨⟨ps,rfl⟩,t⟩
   . exact ⟨o,k.nt _ _ m.nt e,.inl m⟩
   . obtain ⟨qs,e⟩:=k.tb b ps e
     exact ⟨_,e,.inr ⟨⟨qs,rfl⟩,t⟩⟩
 . obtain ⟨o,e,m⟩:=h.rl b z
   exact ⟨o,k.nt _ _ m.nt e,m⟩
 . cases eq:ow s with
   | true =>
     obtain ⟨_,_,_,_,_,_,h3,h4,_⟩:=dh.ow (h.sl i s e) eq
     refine dh.stay h.fd st (fun b v e2 f1 f2 f3=>⟨f1,?_⟩) (h.sl i s e)
     obtain ⟨o,e3,m⟩:=h.fd b f1
     rw [f3] at e3
     cases e3
     rcases m with m | ⟨⟨ps,rfl⟩,t,ht,eb⟩
     . exact k.nt _ _ m.nt f3
     . exfalso
       obtain ⟨c,w,d,e5,_,_,e7,r7,_⟩:=dh.ow (h.sl i s e) eq
       rw [e2] at e5
       cases e5
       rw [f3] at e7
       cases e7
       exact r7.mo.1
   | false =>
     have q:=h.sl i s e
     cases s with
     | no=>trivial
     | fnc n cs =>
       obtain ⟨v,e,r⟩:=q
       exact ⟨v,e,r.keep (lB h.fd st.keep)⟩
     | val d =>
       obtain ⟨v,e,r⟩:=q
       exact ⟨v,e,Rel.step h.fd st d v r⟩
     | own _=>cases eq
     | odc _ _=>cases eq
end
end PP
end
section
namespace PP
open PySem L2 PyProof.Rows PySem.SeqAt
variable [Tbs]
theorem xO (xs:List (Array Nat)):∀ a:Array Nat,(xs.foldl (·++·) a).toList = a.toList++(xs.map (·.toList)).flatten:=by
 induction xs with
 | nil=>intro a;simp
 | cons x r ih=>intro a;rw [eO,ih];simp
theorem DN (x:Str) (n:Int) (h:0<=n):Txt.mul x n = Ab x n.toNat:=by
 unfold Txt.mul Ab
 by_cases h1:n < 1
 . have:n = 0:=by omega
   subst this
   rfl
 . rw [if_neg h1]
   by_cases h2:(n == 1 || x.length == 0) = true
   . rw [if_pos h2]
     rw [bf] at h2
     rcases h2 with h2 | h2
     . have:n = 1:=by simpa using h2
       subst this
       simp
     . have e:x.cps = #[]:=by
        have:x.cps.size = 0:=by simpa [Str.length] using h2
        exact Array.eq_empty_of_size_eq_zero this
       cases x
       simp at e
       subst e
       simp
   . rw [if_neg h2]
     congr 1
     apply Array.ext'
     rw [xO]
     simp
theorem DG {X:Cx}:OpR X (binaryOp .Mult) (fun x y H Q=>∃ i n,x = .str i/\y = .int n/\(0<=n/\n<=1000/\i.length<=1000)/\Q (.str (Ab i n.toNat)) H):=by
 intro pins s σ H x y v u Q I rx ry h
 obtain ⟨i,n,rfl,rfl,⟨h1,h2,h3⟩,q⟩:=h
 obtain ⟨t,rfl⟩:=rx
 obtain ⟨t',rfl⟩:=ry
 refine SB.mul ⟨?_,fun a _ b=>?_,fun a _=>?_⟩ fun t' k=>?_
 . simp;omega
 . have:(1000:Int)<=(2 ^ 63 - 1) / n:=by rw [Int.le_ediv_iff_mul_le (by omega)];omega
   omega
 . have:i.length * n.toNat<=1000 * 1000:=Nat.mul_le_mul h3 (by omega)
   have z:=bM
   unfold Builtin.Str.tooLong
   simp
   omega
 . rw [DN i n h1]
   exact ⟨.str _,H,I.tok _,⟨_,rfl⟩,q⟩
mutual
noncomputable def RdV (h:Heap):D->Value->Prop
 | .non,u=>u = .none
 | .bl b,u=>u = .bool b
 | .int i,u=>∃ t,u = .int i t
 | .str x,u=>∃ t,u = .str x t
 | .lst ds,u=>∃ a its,u = .ref a/\h.IsList a its/\RdL h ds its.toList
 | .tup ds,u=>∃ a its,u = .ref a/\h.IsTuple a its/\RdL h ds its.toList
 | .fn _ _,_=>False
 | .dct _ _,_=>False
noncomputable def RdL (h:Heap):List D->List Value->Prop
 | [],us=>us = []
 | d::ds,us=>∃ w ws,us = w::ws/\RdV h d w/\RdL h ds ws
end
mutual
theorem ud {X:Cx} {pins:List (Addr × Obj)} {σ:L2.St} {H:Hp} {s:Shared} {F:Addr->Prop} (I:Inv X pins σ H s):∀ (d:D) (v:V) (u:Value),Rel X.K H F d v->RelV v u->dep d < 100000->RdV s.heap d u
 | .non,v,u,h,r,_=>by unfold Rel at h;subst h;unfold RdV;exact r
 | .bl b,v,u,h,r,_=>by unfold Rel at h;subst h;unfold RdV;exact r
 | .int b,v,u,h,r,_=>by unfold Rel at h;subst h;unfold RdV;exact r
 | .str b,v,u,h,r,_=>by unfold Rel at h;subst h;unfold RdV;exact r
 | .lst ds,v,u,h,r,hd=>by
   unfold dep at hd
   unfold Rel at h
   obtain ⟨a,xs,e,h1,h3⟩:=h
   subst e
   cases (show u = Value.ref a from r)
   obtain ⟨its,rv,p,hz⟩:=I.list h1.sq
   unfold RdV
   exact ⟨a,its.toArray,rfl,p.isList,jZ I ds xs its h3 rv (by omega)⟩
 | .tup ds,v,u,h,r,hd=>by
   unfold dep at hd
   unfold Rel at h
   obtain ⟨a,xs,e,h1,h3⟩:=h
   subst e
   cases (show u = Value.ref a from r)
   obtain ⟨its,rv,p,hz⟩:=I.tuple h1
   unfold RdV
   exact ⟨a,its.toArray,rfl,p,jZ I ds xs its h3 rv (by omega)⟩
 | .fn _ _,v,u,h,r,_=>by unfold Rel at h;exact h.elim
 | .dct _ _,v,u,h,r,hd=>by unfold dep at hd;exact absurd hd (cI _)
theorem jZ {X:Cx} {pins:List (Addr × Obj)} {σ:L2.St} {H:Hp} {s:Shared} {F:Addr->Prop} (I:Inv X pins σ H s):∀ (ds:List D) (xs:List V) (us:List Value),aA X.K H F ds xs->Vals xs us->bI ds < 100000->RdL s.heap ds us
 | [],xs,us,h,r,_=>by unfold aA at h;subst h;cases r;unfold RdL;rfl
 | d::ds,xs,us,h,r,hd=>by
   unfold bI at hd
   unfold aA at h
   obtain ⟨y,ys,e,h1,h2⟩:=h
   subst e
   cases r with
   | cons r1 r2 =>
     unfold RdL
     exact ⟨_,_,rfl,ud I d y _ h1 r1 (by omega),jZ I ds ys _ h2 r2 (by omega)⟩
end
theorem dU {X:Cx} {pins:List (Addr × Obj)} {σ:L2.St} {H:Hp} {s:Shared} {F:Addr->Prop} (I:Inv X pins σ H s) {d:D} {v:V} {u:Value} (h:cU X.K H F d v) (r:RelV v u) (hd:dep d < 100000):RdV s.heap d u:=by
 rcases h with h | ⟨a,xs,ds,rfl,rfl,h1,h2⟩
 . exact ud I d v u h r hd
 . cases (show u = Value.ref a from r)
   obtain ⟨its,rv,p,hz⟩:=I.list (.inl (.inl h1))
   unfold RdV
   unfold dep at hd
   exact ⟨a,its.toArray,rfl,p.isList,jZ I ds xs its h2 rv (by omega)⟩
mutual
theorem RdV.inj {h:Heap}:∀ (d e:D) (u:Value),RdV h d u->RdV h e u->d = e
 | .non,e,u,a,b=>by
   unfold RdV at a;subst a
   cases e<;>unfold RdV at b<;>first | rfl | (obtain ⟨_,_,b,_⟩:=b;cases b;done) | (obtain ⟨_,b⟩:=b;cases b;done) | (cases b;done)
 | .bl x,e,u,a,b=>by
   unfold RdV at a;subst a
   cases e<;>unfold RdV at b<;>first | (cases b;rfl) | (obtain ⟨_,_,b,_⟩:=b;cases b;done) | (obtain ⟨_,b⟩:=b;cases b;done) | (cases b;done)
 | .int x,e,u,a,b=>by
   unfold RdV at a;obtain ⟨t,a⟩:=a;subst a
   cases e<;>unfold RdV at b<;>first | (obtain ⟨_,_,b,_⟩:=b;cases b;done) | (obtain ⟨_,b⟩:=b;cases b;rfl) | (obtain ⟨_,b⟩:=b;cases b;done) | (cases b;done)
 | .str x,e,u,a,b=>by
   unfold RdV at a;obtain ⟨t,a⟩:=a;subst a
   cases e<;>unfold RdV at b<;>first | (obtain ⟨_,_,b,_⟩:=b;cases b;done) | (obtain ⟨_,b⟩:=b;cases b;rfl) | (obtain ⟨_,b⟩:=b;cases b;done) | (cases b;done)
 | .lst ds,e,u,a,b=>by
   unfold RdV at a;obtain ⟨l,its,a,h1,h2⟩:=a;subst a
   cases e with
   | lst es =>
     unfold RdV at b;obtain ⟨l',its',b,k1,k2⟩:=b;cases b
     obtain ⟨o,g1,g2,n,g3⟩:=h1
     obtain ⟨o',f1,f2,n',f3⟩:=k1
     rw [g1] at f1;cases f1
     rw [g3] at f3;cases f3
     rw [RdL.inj ds es _ h2 k2]
   | tup es =>
     unfold RdV at b;obtain ⟨l',its',b,k1,k2⟩:=b;cases b
     obtain ⟨o,g1,g2,_⟩:=h1
     obtain ⟨o',f1,f2,_⟩:=k1
     rw [g1] at f1;cases f1
     rw [g2] at f2;injection f2 with f2;exact absurd f2 (by decide)
   | _=>unfold RdV at b;first | (obtain ⟨_,b⟩:=b;cases b) | cases b
 | .tup ds,e,u,a,b=>by
   unfold RdV at a;obtain ⟨l,its,a,h1,h2⟩:=a;subst a
   cases e with
   | tup es =>
     unfold RdV at b;obtain ⟨l',its',b,k1,k2⟩:=b;cases b
     obtain ⟨o,g1,g2,n,g3⟩:=h1
     obtain ⟨o',f1,f2,n',f3⟩:=k1
     rw [g1] at f1;cases f1
     rw [g3] at f3;cases f3
     rw [RdL.inj ds es _ h2 k2]
   | lst es =>
     unfold RdV at b;obtain ⟨l',its',b,k1,k2⟩:=b;cases b
     obtain ⟨o,g1,g2,_⟩:=h1
     obtain ⟨o',f1,f2,_⟩:=k1
     rw [g1] at f1;cases f1
     rw [g2] at f2;injection f2 with f2;exact absurd f2 (by decide)
   | _=>unfold RdV at b;first | (obtain ⟨_,b⟩:=b;cases b) | cases b
 | .fn _ _,e,u,a,b=>by unfold RdV at a;exact a.elim
 | .dct _ _,e,u,a,b=>by unfold RdV at a;exact a.elim
theorem RdL.inj {h:Heap}:∀ (ds es:List D) (us:List Value),RdL h ds us->RdL h es us->ds = es
 | [],es,us,a,b=>by
   unfold RdL at a;subst a
   cases es with
   | nil=>rfl
   | cons e es=>unfold RdL at b;obtain ⟨_,_,b,_⟩:=b;cases b
 | d::ds,es,us,a,b=>by
   unfold RdL at a;obtain ⟨w,ws,a,h1,h2⟩:=a;subst a
   cases es with
   | nil=>unfold RdL at b;cases b
   | cons e es =>
     unfold RdL at b;obtain ⟨_,_,b,k1,k2⟩:=b;cases b
     rw [RdV.inj d e w h1 k1,RdL.inj ds es ws h2 k2]
end
mutual
theorem iA:∀ d:D,dep d < 100000->eqD d d = true
 | .non,_=>by unfold eqD;rfl
 | .bl b,_=>by unfold eqD;simp
 | .int b,_=>by unfold eqD;simp
 | .str b,_=>by unfold eqD;simp
 | .lst ds,h=>by unfold eqD;exact kn ds (by unfold dep at h;omega)
 | .tup ds,h=>by unfold eqD;exact kn ds (by unfold dep at h;omega)
 | .fn _ _,h=>by unfold dep at h;omega
 | .dct _ _,h=>by unfold dep at h;omega
theorem kn:∀ ds:List D,bI ds < 100000->eZ ds ds = true
 | [],_=>by unfold eZ;rfl
 | d::ds,h=>by
   unfold bI at h
   unfold eZ
   rw [iA d (by omega),kn ds (by omega)]
   rfl
end
noncomputable def pairD (ds es:List D) (j:Nat):Bool:=match ds[j]?,es[j]? with
 | some x,some y=>eqD x y
 | _,_=>false
theorem iL:∀ (ds es:List D),(List.range (min ds.length es.length)).all (pairD ds es) = true/\ds.length = es.length↔eZ ds es = true
 | [],[]=>by unfold eZ;simp
 | [],_::_=>by unfold eZ;simp
 | _::_,[]=>by unfold eZ;simp
 | d::ds,e::es=>by
   have ih:=iL ds es
   have e1:min (d::ds).length (e::es).length = min ds.length es.length+1:=by simp only [aw];omega
   rw [e1,List.range_succ_eq_map,dH,List.all_map]
   have e2:(pairD (d::ds) (e::es) ∘ Nat.succ) = pairD ds es:=by funext j;simp [pairD]
   rw [e2]
   unfold eZ
   rw [aa,aa,<- ih]
   have e3:pairD (d::ds) (e::es) 0 = eqD d e:=rfl
   rw [e3]
   simp only [aw]
   constructor
   . rintro ⟨⟨a,b⟩,c⟩;exact ⟨a,b,by omega⟩
   . rintro ⟨a,b,c⟩;exact ⟨⟨a,b⟩,by omega⟩
theorem mP {ds es:List D} (h:ds.length = es.length):(List.range ds.length).all (pairD ds es) = eZ ds es:=by
 have q:=iL ds es
 rw [<- h,uI] at q
 rw [df]
 rw [<- q]
 simp
theorem qj {ds es:List D} (h:ds.length≠es.length):eZ ds es = false:=by
 have q:=iL ds es
 rw [cB]
 intro z
 exact h (q.mpr z).2
theorem ko (ds es:List D):((List.range (min ds.length es.length)).all (pairD ds es) && ds.length == es.length) = eZ ds es:=by
 have q:=iL ds es
 rw [df,aa,<- q]
 simp
theorem RdL.length {h:Heap}:∀ {ds:List D} {us:List Value},RdL h ds us->us.length = ds.length
 | [],us,a=>by unfold RdL at a;subst a;rfl
 | d::ds,us,a=>by
   unfold RdL at a;obtain ⟨w,ws,a,_,h2⟩:=a;subst a
   rw [aw,aw,RdL.length h2]
mutual
theorem mQ:∀ (a b:D) (A:Around) (s:Shared) (u v:Value),RdV s.heap a u->RdV s.heap b v->A.units+min (dep a) (dep b) < cLine->EqAt A s u v (eqD a b)
 | .non,b,A,s,u,v,ra,rb,hu=>by
   unfold RdV at ra;subst ra
   cases b with
   | non=>unfold RdV at rb;subst rb;unfold eqD;exact BS _
   | bl b=>unfold RdV at rb;subst rb;unfold eqD;exact EqAt.none_bool b
   | int b=>unfold RdV at rb;obtain ⟨t,rfl⟩:=rb;unfold eqD;exact EqAt.none_int b t
   | str b=>unfold RdV at rb;obtain ⟨t,rfl⟩:=rb;unfold eqD;exact EqAt.none_str b t
   | lst ds=>unfold RdV at rb;obtain ⟨l,its,rfl,h1,h2⟩:=rb;unfold eqD;exact EqAt.none_list h1 (by omega)
   | tup ds=>unfold RdV at rb;obtain ⟨l,its,rfl,h1,h2⟩:=rb;unfold eqD;exact EqAt.none_tuple h1 (by omega)
   | fn _ _=>unfold RdV at rb;exact rb.elim
   | dct _ _=>unfold RdV at rb;exact rb.elim
 | .bl a,b,A,s,u,v,ra,rb,hu=>by
   unfold RdV at ra;subst ra
   cases b with
   | non=>unfold RdV at rb;subst rb;unfold eqD;exact EqAt.bool_none a
   | bl b=>unfold RdV at rb;subst rb;unfold eqD;exact EqAt.bool_bool a b
   | int b=>unfold RdV at rb;obtain ⟨t,rfl⟩:=rb;unfold eqD;exact EqAt.bool_int a b t
   | str b=>unfold RdV at rb;obtain ⟨t,rfl⟩:=rb;unfold eqD;exact EqAt.bool_str a b t
   | lst ds=>unfold RdV at rb;obtain ⟨l,its,rfl,h1,h2⟩:=rb;unfold eqD;exact EqAt.bool_list a h1 (by omega)
   | tup ds=>unfold RdV at rb;obtain ⟨l,its,rfl,h1,h2⟩:=rb;unfold eqD;exact EqAt.bool_tuple a h1 (by omega)
   | fn _ _=>unfold RdV at rb;exact rb.elim
   | dct _ _=>unfold RdV at rb;exact rb.elim
 | .int a,b,A,s,u,v,ra,rb,hu=>by
   unfold RdV at ra;obtain ⟨t',rfl⟩:=ra
   cases b with
   | non=>unfold RdV at rb;subst rb;unfold eqD;exact EqAt.int_none a t'
   | bl b=>unfold RdV at rb;subst rb;unfold eqD;exact EqAt.int_bool a t' b
   | int b=>unfold RdV at rb;obtain ⟨t,rfl⟩:=rb;unfold eqD;exact EqAt.int_int a t' b t
   | str b=>unfold RdV at rb;obtain ⟨t,rfl⟩:=rb;unfold eqD;exact EqAt.int_str a t' b t
   | lst ds=>unfold RdV at rb;obtain ⟨l,its,rfl,h1,h2⟩:=rb;unfold eqD;exact EqAt.int_list a t' h1 (by omega)
   | tup ds=>unfold RdV at rb;obtain ⟨l,its,rfl,h1,h2⟩:=rb;unfold eqD;exact EqAt.int_tuple a t' h1 (by omega)
   | fn _ _=>unfold RdV at rb;exact rb.elim
   | dct _ _=>unfold RdV at rb;exact rb.elim
 | .str a,b,A,s,u,v,ra,rb,hu=>by
   unfold RdV at ra;obtain ⟨t',rfl⟩:=ra
   cases b with
   | non=>unfold RdV at rb;subst rb;unfold eqD;exact EqAt.str_none a t'
   | bl b=>unfold RdV at rb;subst rb;unfold eqD;exact EqAt.str_bool a t' b
   | int b=>unfold RdV at rb;obtain ⟨t,rfl⟩:=rb;unfold eqD;exact EqAt.str_int a t' b t
   | str b=>unfold RdV at rb;obtain ⟨t,rfl⟩:=rb;unfold eqD;exact EqAt.str_str a t' b t
   | lst ds=>unfold RdV at rb;obtain ⟨l,its,rfl,h1,h2⟩:=rb;unfold eqD;exact EqAt.str_list a t' h1 (by omega)
   | tup ds=>unfold RdV at rb;obtain ⟨l,its,rfl,h1,h2⟩:=rb;unfold eqD;exact EqAt.str_tuple a t' h1 (by omega)
   | fn _ _=>unfold RdV at rb;exact rb.elim
   | dct _ _=>unfold RdV at rb;exact rb.elim
 | .lst ds,b,A,s,u,v,ra,rb,hu=>by
   have ra':=ra
   unfold RdV at ra;obtain ⟨l,its,rfl,h1,h2⟩:=ra
   cases b with
   | non=>unfold RdV at rb;subst rb;unfold eqD;exact EqAt.list_none h1 (by omega)
   | bl b=>unfold RdV at rb;subst rb;unfold eqD;exact EqAt.list_bool b h1 (by omega)
   | int b=>unfold RdV at rb;obtain ⟨t,rfl⟩:=rb;unfold eqD;exact EqAt.list_int b t h1 (by omega)
   | str b=>unfold RdV at rb;obtain ⟨t,rfl⟩:=rb;unfold eqD;exact EqAt.list_str b t h1 (by omega)
   | tup es=>unfold RdV at rb;obtain ⟨l',its',rfl,k1,k2⟩:=rb;unfold eqD;exact EqAt.list_tuple h1 k1 (by omega)
   | lst es =>
     have rb':=rb
     unfold RdV at rb;obtain ⟨l',its',rfl,k1,k2⟩:=rb
     by_cases hl:l = l'
     . subst hl
       have e:=RdV.inj _ _ _ ra' rb'
       cases e
       have hd:dep (.lst ds) < 100000:=by rw [uI] at hu;have:cLine = 9900:=rfl;omega
       rw [iA _ hd]
       exact BS _
     . unfold eqD
       have n1:its.size = ds.length:=by simpa using h2.length
       have n2:its'.size = es.length:=by simpa using k2.length
       have he:∀ j (j1:j < its.size) (j2:j < its'.size),EqAt A.in1 s its[j] its'[j] (pairD ds es j):=fun j j1 j2=>by
        have q:=gZ ds es A.in1 s its.toList its'.toList h2 k2 (by show A.units+1+_ < _;unfold dep at hu;omega) j (by simpa using j1) (by simpa using j2)
        simpa using q
       refine EqAt.of_refs hl ?_
       by_cases hsz:its.size = its'.size
       . rw [<- mP (by omega:ds.length = es.length),<- n1]
         exact RcAt.lists h1 k1 hsz (by omega) he
       . rw [qj (by omega:ds.length≠es.length)]
         exact RcAt.lists_lengths h1 k1 (by simpa using hsz) (by omega)
   | fn _ _=>unfold RdV at rb;exact rb.elim
   | dct _ _=>unfold RdV at rb;exact rb.elim
 | .tup ds,b,A,s,u,v,ra,rb,hu=>by
   have ra':=ra
   unfold RdV at ra;obtain ⟨l,its,rfl,h1,h2⟩:=ra
   cases b with
   | non=>unfold RdV at rb;subst rb;unfold eqD;exact EqAt.tuple_none h1 (by omega)
   | bl b=>unfold RdV at rb;subst rb;unfold eqD;exact EqAt.tuple_bool b h1 (by omega)
   | int b=>unfold RdV at rb;obtain ⟨t,rfl⟩:=rb;unfold eqD;exact EqAt.tuple_int b t h1 (by omega)
   | str b=>unfold RdV at rb;obtain ⟨t,rfl⟩:=rb;unfold eqD;exact EqAt.tuple_str b t h1 (by omega)
   | lst es=>unfold RdV at rb;obtain ⟨l',its',rfl,k1,k2⟩:=rb;unfold eqD;exact EqAt.tuple_list h1 k1 (by omega)
   | tup es =>
     have rb':=rb
     unfold RdV at rb;obtain ⟨l',its',rfl,k1,k2⟩:=rb
     by_cases hl:l = l'
     . subst hl
       have e:=RdV.inj _ _ _ ra' rb'
       cases e
       have hd:dep (.tup ds) < 100000:=by rw [uI] at hu;have:cLine = 9900:=rfl;omega
       rw [iA _ hd]
       exact BS _
     . unfold eqD
       have n1:its.size = ds.length:=by simpa using h2.length
       have n2:its'.size = es.length:=by simpa using k2.length
       have he:∀ j (j1:j < its.size) (j2:j < its'.size),EqAt A.in1 s its[j] its'[j] (pairD ds es j):=fun j j1 j2=>by
        have q:=gZ ds es A.in1 s its.toList its'.toList h2 k2 (by show A.units+1+_ < _;unfold dep at hu;omega) j (by simpa using j1) (by simpa using j2)
        simpa using q
       refine EqAt.of_refs hl ?_
       rw [<- ko,<- n1,<- n2]
       exact RcAt.tuples h1 k1 (by omega) he
   | fn _ _=>unfold RdV at rb;exact rb.elim
   | dct _ _=>unfold RdV at rb;exact rb.elim
 | .fn _ _,b,A,s,u,v,ra,rb,hu=>by unfold RdV at ra;exact ra.elim
 | .dct _ _,b,A,s,u,v,ra,rb,hu=>by unfold RdV at ra;exact ra.elim
theorem gZ:∀ (ds es:List D) (A:Around) (s:Shared) (us vs:List Value),RdL s.heap ds us->RdL s.heap es vs->A.units+min (bI ds) (bI es) < cLine->∀ j (h1:j < us.length) (h2:j < vs.length),EqAt A s us[j] vs[j] (pairD ds es j)
 | [],_,_,_,us,_,ra,_,_,j,h1,_=>by unfold RdL at ra;subst ra;exact absurd h1 (EY _)
 | _::_,[],_,_,_,vs,_,rb,_,j,_,h2=>by unfold RdL at rb;subst rb;exact absurd h2 (EY _)
 | d::ds,e::es,A,s,us,vs,ra,rb,hu,j,h1,h2=>by
   unfold RdL at ra rb
   obtain ⟨w,ws,rfl,a1,a2⟩:=ra
   obtain ⟨w',ws',rfl,b1,b2⟩:=rb
   unfold bI at hu
   cases j with
   | zero=>exact mQ d e A s w w' a1 b1 (by omega)
   | succ j =>
     have q:=gZ ds es A s ws ws' a2 b2 (by omega) j (by simpa using h1) (by simpa using h2)
     simpa [pairD] using q
end
theorem wb {i:Int} (h:i.natAbs < 2 ^ 200):Builtin.Int.intBits i<=2 ^ 20:=by
 unfold Builtin.Int.intBits
 split
 . exact bA _
 . rename_i h0
   have:i.natAbs.log2 < 200:=(yp (by simpa using h0)).mpr h
   have:(200:Nat)<=2 ^ 20:=by decide
   omega
theorem DO {i j:Int} (h:iu i j = true):IntMulOk i j:=by
 unfold iu at h
 simp only [bf,aa,decide_eq_true_eq] at h
 rcases h with (h | h) | h
 . exact .of_left (lG h.1 h.2)
 . exact .of_right (lG h.1 h.2)
 . exact .of_bits (wb h.1) (wb h.2)
theorem DH {X:Cx}:OpR X (binaryOp .Mult) (rI IntMulOk fun i j=>.int (i * j)):=opI fun _ _ _ _ _ _ _ hc q=>PyProof.Rows.mul_int q hc
theorem Ao {X:Cx}:OpR X (binaryOp .FloorDiv) (rI (fun _ j=>0 < j/\j < 1000000000000000000000000000000000000000000000000000000000000) fun i j=>.int (i / j)):=opI fun i j _ _ _ _ _ hc q=>by
 have h1:(0:Int) < j:=hc.1
 have h2:j < 1000000000000000000000000000000000000000000000000000000000000:=hc.2
 refine PyProof.Rows.floordiv_int (by omega) (by rw [qJ i (by omega)];exact q) (.inl (PyProof.noPylong_of_log2 ?_))
 exact Nat.lt_trans ((yp (k:=200) (by omega)).mpr (aP (show j.natAbs < 1000000000000000000000000000000000000000000000000000000000000 by omega) (by decide +kernel))) (by decide)
end PP
end
section
namespace PP
open PySem L2 PyProof.Rows PySem.SeqAt
variable [Tbs]
section
variable {X:Cx}
theorem Hu (hu:X.A.units+200 < cLine):OpR X (compareOp .Eq) (fun x y H Q=>∃ F a b,cU X.K H F a x/\cU X.K H F b y/\gc a b = true/\Q (.bl (eqD a b)) H):=by
 intro pins s σ H x y v u Q I rx ry h
 obtain ⟨F,a,b,ha,hb,hk,q⟩:=h
 unfold gc at hk
 rw [aa,aa] at hk
 obtain ⟨⟨hk,hd⟩,hm⟩:=hk
 replace hd:=of_decide_eq_true hd
 replace hm:=of_decide_eq_true hm
 have ra:=dU I ha rx (by omega)
 have rb:=dU I hb ry (by omega)
 have fin:∀ k:Bool,k = eqD a b->EP X pins σ Q (.bool k) s:=fun k e=>⟨.bl k,H,I,rfl,by rw [e];exact q⟩
 cases a<;>cases b<;>first
  | (exact absurd (show false = true from hk) ai)
  | skip
 . unfold RdV at ra rb;subst ra;subst rb
   exact RcAt.bool_bool _ _ _ _ _ _ (fin _ (by unfold eqD;rfl))
 . unfold RdV at ra rb;obtain ⟨t,rfl⟩:=ra;obtain ⟨t',rfl⟩:=rb
   exact RcAt.int_int _ _ _ _ _ _ _ _ (fin _ (by unfold eqD;rfl))
 . unfold RdV at ra rb;obtain ⟨t,rfl⟩:=ra;obtain ⟨t',rfl⟩:=rb
   exact RcAt.str_str _ _ _ _ _ _ _ _ (fin _ (by unfold eqD;rfl))
 . rename_i ds es
   unfold RdV at ra rb;obtain ⟨l,its,rfl,h1,h2⟩:=ra;obtain ⟨l',its',rfl,k1,k2⟩:=rb
   have n1:its.size = ds.length:=by simpa using h2.length
   have n2:its'.size = es.length:=by simpa using k2.length
   have he:∀ j (j1:j < its.size) (j2:j < its'.size),EqAt X.A.in1 s its[j] its'[j] (pairD ds es j):=fun j j1 j2=>by
    have q:=gZ ds es X.A.in1 s its.toList its'.toList h2 k2 (by show X.A.units+1+_ < _;unfold dep at hd;omega) j (by simpa using j1) (by simpa using j2)
    simpa using q
   by_cases hsz:its.size = its'.size
   . refine eq_listAt h1 k1 hsz (by omega) he (fin _ ?_)
     unfold eqD
     rw [n1]
     exact mP (by omega)
   . refine eq_list_lengthsAt h1 k1 (by simpa using hsz) (by omega) (fin _ ?_)
     unfold eqD
     exact (qj (by omega)).symm
 . rename_i ds es
   unfold RdV at ra rb;obtain ⟨l,its,rfl,h1,h2⟩:=ra;obtain ⟨l',its',rfl,k1,k2⟩:=rb
   have n1:its.size = ds.length:=by simpa using h2.length
   have n2:its'.size = es.length:=by simpa using k2.length
   have he:∀ j (j1:j < its.size) (j2:j < its'.size),EqAt X.A.in1 s its[j] its'[j] (pairD ds es j):=fun j j1 j2=>by
    have q:=gZ ds es X.A.in1 s its.toList its'.toList h2 k2 (by show X.A.units+1+_ < _;unfold dep at hd;omega) j (by simpa using j1) (by simpa using j2)
    simpa using q
   refine eq_tupleAt h1 k1 (by omega) he (fin _ ?_)
   unfold eqD
   rw [n1,n2]
   exact ko ds es
theorem Ho (hu:X.A.units+200 < cLine):OpR X (compareOp .NotEq) (fun x y H Q=>∃ F a b,cU X.K H F a x/\cU X.K H F b y/\gc a b = true/\Q (.bl (!eqD a b)) H):=by
 intro pins s σ H x y v u Q I rx ry h
 obtain ⟨F,a,b,ha,hb,hk,q⟩:=h
 unfold gc at hk
 rw [aa,aa] at hk
 obtain ⟨⟨hk,hd⟩,hm⟩:=hk
 replace hd:=of_decide_eq_true hd
 replace hm:=of_decide_eq_true hm
 have ra:=dU I ha rx (by omega)
 have rb:=dU I hb ry (by omega)
 have fin:∀ k:Bool,k = (!eqD a b)->EP X pins σ Q (.bool k) s:=fun k e=>⟨.bl k,H,I,rfl,by rw [e];exact q⟩
 cases a<;>cases b<;>first
  | (exact absurd (show false = true from hk) ai)
  | skip
 . unfold RdV at ra rb;subst ra;subst rb
   exact RcNeAt.bool_bool _ _ _ _ _ _ (fin _ (by unfold eqD;rfl))
 . unfold RdV at ra rb;obtain ⟨t,rfl⟩:=ra;obtain ⟨t',rfl⟩:=rb
   exact RcNeAt.int_int _ _ _ _ _ _ _ _ (fin _ (by unfold eqD;rfl))
 . unfold RdV at ra rb;obtain ⟨t,rfl⟩:=ra;obtain ⟨t',rfl⟩:=rb
   exact RcNeAt.str_str _ _ _ _ _ _ _ _ (fin _ (by unfold eqD;rfl))
 . rename_i ds es
   unfold RdV at ra rb;obtain ⟨l,its,rfl,h1,h2⟩:=ra;obtain ⟨l',its',rfl,k1,k2⟩:=rb
   have n1:its.size = ds.length:=by simpa using h2.length
   have n2:its'.size = es.length:=by simpa using k2.length
   have he:∀ j (j1:j < its.size) (j2:j < its'.size),EqAt X.A.in1 s its[j] its'[j] (pairD ds es j):=fun j j1 j2=>by
    have q:=gZ ds es X.A.in1 s its.toList its'.toList h2 k2 (by show X.A.units+1+_ < _;unfold dep at hd;omega) j (by simpa using j1) (by simpa using j2)
    simpa using q
   by_cases hsz:its.size = its'.size
   . refine RcNeAt.lists h1 k1 hsz (by omega) he _ _ _ _ (fin _ ?_)
     unfold eqD
     rw [n1,mP (by omega)]
   . refine RcNeAt.lists_lengths h1 k1 (by simpa using hsz) (by omega) _ _ _ _ (fin _ ?_)
     unfold eqD
     rw [qj (by omega)]
     rfl
 . rename_i ds es
   unfold RdV at ra rb;obtain ⟨l,its,rfl,h1,h2⟩:=ra;obtain ⟨l',its',rfl,k1,k2⟩:=rb
   have n1:its.size = ds.length:=by simpa using h2.length
   have n2:its'.size = es.length:=by simpa using k2.length
   have he:∀ j (j1:j < its.size) (j2:j < its'.size),EqAt X.A.in1 s its[j] its'[j] (pairD ds es j):=fun j j1 j2=>by
    have q:=gZ ds es X.A.in1 s its.toList its'.toList h2 k2 (by show X.A.units+1+_ < _;unfold dep at hd;omega) j (by simpa using j1) (by simpa using j2)
    simpa using q
   refine RcNeAt.tuples h1 k1 (by omega) he _ _ _ _ (fin _ ?_)
   unfold eqD
   rw [n1,n2,ko ds es]
open Classical in
noncomputable def isEq (h:Heap) (a:D) (u:Value):Bool:=if ∃ d,RdV h d u/\eqD d a = true then true else false
theorem vK {h:Heap} {a d:D} {u:Value} (r:RdV h d u):isEq h a u = eqD d a:=by
 unfold isEq
 cases e:eqD d a with
 | true=>rw [if_pos ⟨d,r,e⟩]
 | false =>
   rw [if_neg]
   rintro ⟨d',r',e'⟩
   rw [RdV.inj d d' u r r',e'] at e
   cases e
theorem iB {h:Heap} {a:D}:∀ {ds:List D} {us:List Value},RdL h ds us->us.any (isEq h a) = ds.any fun d=>eqD d a
 | [],us,r=>by unfold RdL at r;subst r;rfl
 | d::ds,us,r=>by
   unfold RdL at r;obtain ⟨w,ws,rfl,h1,h2⟩:=r
   rw [eF,eF,vK h1,iB h2]
theorem iv {A:Around} {s:Shared} {a:D} {v:Value} (rv:RdV s.heap a v) (hu:A.units+dep a < cLine):∀ {ds:List D} {us:List Value},RdL s.heap ds us->∀ u∈us,EqAt A s u v (isEq s.heap a u)
 | [],us,r=>fun u hm=>by unfold RdL at r;subst r;cases hm
 | d::ds,us,r=>fun u hm=>by
   unfold RdL at r;obtain ⟨w,ws,rfl,h1,h2⟩:=r
   rcases aQ.mp hm with rfl | hm
   . rw [vK h1]
     exact mQ d a A s u v h1 rv (by omega)
   . exact iv rv hu h2 u hm
theorem Ht (hu:X.A.units+200 < cLine):OpR X (compareOp .In) (fun x y H Q=>∃ F a ds,cU X.K H F a x/\(cU X.K H F (.lst ds) y\/cU X.K H F (.tup ds) y)/\(dep a<=150/\bI ds < 99999)/\Q (.bl (ds.any fun d=>eqD d a)) H):=by
 intro pins s σ H x y v u Q I rx ry h
 obtain ⟨F,a,ds,ha,hb,⟨hd,hm⟩,q⟩:=h
 have ra:=dU I ha rx (by omega)
 have fin:∀ k:Bool,k = (ds.any fun d=>eqD d a)->EP X pins σ Q (.bool k) s:=fun k e=>⟨.bl k,H,I,rfl,by rw [e];exact q⟩
 rcases hb with hb | hb
 . have rb:=dU I hb ry (by unfold dep;omega)
   unfold RdV at rb;obtain ⟨l',its',rfl,k1,k2⟩:=rb
   refine in_listAt (isEq s.heap a) k1 (fun w hw=>iv ra (by show X.A.units+1+_ < _;omega) k2 w (by simpa using hw)) (fin _ ?_)
   rw [show its'.any (isEq s.heap a) = its'.toList.any (isEq s.heap a) by simp,iB k2]
 . have rb:=dU I hb ry (by unfold dep;omega)
   unfold RdV at rb;obtain ⟨l',its',rfl,k1,k2⟩:=rb
   refine in_tupleAt (isEq s.heap a) k1 (fun w hw=>iv ra (by show X.A.units+1+_ < _;omega) k2 w (by simpa using hw)) (fin _ ?_)
   rw [show its'.any (isEq s.heap a) = its'.toList.any (isEq s.heap a) by simp,iB k2]
theorem xD (hu:X.A.units+200 < cLine):OpR X (compareOp .NotIn) (fun x y H Q=>∃ F a ds,cU X.K H F a x/\(cU X.K H F (.lst ds) y\/cU X.K H F (.tup ds) y)/\(dep a<=150/\bI ds < 99999)/\Q (.bl (!ds.any fun d=>eqD d a)) H):=by
 intro pins s σ H x y v u Q I rx ry h
 obtain ⟨F,a,ds,ha,hb,⟨hd,hm⟩,q⟩:=h
 have ra:=dU I ha rx (by omega)
 have fin:∀ k:Bool,k = (!ds.any fun d=>eqD d a)->EP X pins σ Q (.bool k) s:=fun k e=>⟨.bl k,H,I,rfl,by rw [e];exact q⟩
 rcases hb with hb | hb
 . have rb:=dU I hb ry (by unfold dep;omega)
   unfold RdV at rb;obtain ⟨l',its',rfl,k1,k2⟩:=rb
   refine notIn_listAt (isEq s.heap a) k1 (fun w hw=>iv ra (by show X.A.units+1+_ < _;omega) k2 w (by simpa using hw)) (fin _ ?_)
   rw [show its'.any (isEq s.heap a) = its'.toList.any (isEq s.heap a) by simp,iB k2]
 . have rb:=dU I hb ry (by unfold dep;omega)
   unfold RdV at rb;obtain ⟨l',its',rfl,k1,k2⟩:=rb
   refine notIn_tupleAt (isEq s.heap a) k1 (fun w hw=>iv ra (by show X.A.units+1+_ < _;omega) k2 w (by simpa using hw)) (fin _ ?_)
   rw [show its'.any (isEq s.heap a) = its'.toList.any (isEq s.heap a) by simp,iB k2]
theorem zq {ns:List Int}:∀ {xs:List V} {us:List Value},xs = ns.map V.int->Vals xs us->∀ i v,us[i]? = some v->∃ t,v = Value.int (ns.getD i 0) t:=by
 induction ns with
 | nil=>intro xs us e r i v h;subst e;cases r;simp at h
 | cons n ns ih =>
   intro xs us e r i v h
   subst e
   cases r with
   | cons r1 r2 =>
     cases i with
     | zero=>simp at h;subst h;obtain ⟨t,e⟩:=r1;exact ⟨t,by simpa using e⟩
     | succ i =>
       obtain ⟨t,e⟩:=ih rfl r2 i v (by simpa using h)
       exact ⟨t,by simpa using e⟩
theorem Cu {ns:List Bool}:∀ {xs:List V} {us:List Value},xs = ns.map V.bl->Vals xs us->∀ i v,us[i]? = some v->v = Value.bool (ns.getD i false):=by
 induction ns with
 | nil=>intro xs us e r i v h;subst e;cases r;simp at h
 | cons n ns ih =>
   intro xs us e r i v h
   subst e
   cases r with
   | cons r1 r2 =>
     cases i with
     | zero=>simp at h;subst h;have e:_ = Value.bool n:=r1;simpa using e
     | succ i=>simpa using ih rfl r2 i v (by simpa using h)
theorem ue (bs:List Bool):((List.range bs.length).any fun i=>bs.getD i false) = bs.any id:=by
 rw [df,cR,cR]
 constructor
 . rintro ⟨i,hi,e⟩
   have hi':=dR.mp hi
   refine ⟨bs[i],hV hi',?_⟩
   simpa [List.getD,ax hi'] using e
 . rintro ⟨b,hb,e⟩
   obtain ⟨i,hi,rfl⟩:=List.getElem_of_mem hb
   exact ⟨i,dR.mpr hi,by simpa [List.getD,ax hi] using e⟩
theorem yf (hc:X.calm = true):bT X (.builtin "any") (fun xs H Q=>∃ (p:Addr) (ns:List Bool),xs = [.ref p]/\SqL X.K H p (ns.map V.bl)/\Q (.bl (ns.any id)) H):=by
 intro pins s σ H xs us Q I r h
 obtain ⟨p,ns,rfl,hq,q⟩:=h
 obtain ⟨u,rfl,rx⟩:=vals1 r
 cases rx
 obtain ⟨its,rv,pl,hz⟩:=I.list hq
 have hlt:p < s.heap.objs.size:=by obtain ⟨o,e,_⟩:=pl.isList;exact aB e
 refine call_any_walk (hZ pl.isList ?_)
 refine ⟨s.heap.objs.size,[s.heap.objs.size,p],[s.heap.objs.size],its.toArray.size,_,_,fun i=>ns.getD i false,rfl,yo (A:=X.A.in1) (I.ok.hd hc) s.heap.objs.size p (aH hlt) its.toArray,
  ⟨⟨_,aD _ rfl,rfl,rfl⟩,?_⟩,fun i v s' Q' E' hP hQ=>?_,fun h' tk hk=>?_⟩
 . obtain ⟨o,e,r⟩:=pl.isList
   exact ⟨o,ah _ e,r⟩
 . rw [Cu rfl rv i v (by simpa using hP)]
   exact dY hQ
 . have e:its.toArray.size = ns.length:=by rw [aG,<- rv.length,aj]
   rw [e,ue]
   exact ⟨.bl (ns.any id),H,I.kept (h':=h') (t':=tk) (fun b o e=>hk b o (by simp;exact aH (aB e)) (ah _ e)),rfl,q⟩
theorem xg {ns:List Int} {v:Int} (h:ns≠[]):pF (ns++[v]) = if v > pF ns then v else pF ns:=by
 cases ns with
 | nil=>exact absurd rfl h
 | cons n ns =>
   show (ns++[v]).foldl _ n = _
   rw [List.foldl_append]
   rfl
theorem sT (ns:List Int):∀ k,k < ns.length->ns.getD (argBest (fun i j=>decide (ns.getD i 0 > ns.getD j 0)) k) 0 = pF (ns.take (k+1))
 | 0,h=>by
   cases ns with
   | nil=>cases h
   | cons n ns=>simp [argBest,pF]
 | k+1,h=>by
   have ih:=sT ns k (by omega)
   have e:ns[k+1]? = some (ns.getD (k+1) 0):=by rw [dS,ax h];rfl
   have e2:ns.take (k+1+1) = ns.take (k+1)++[ns.getD (k+1) 0]:=by rw [List.take_add_one,e];rfl
   rw [e2,xg (by cases ns with
    | nil=>cases h
    | cons _ _=>simp),<- ih]
   show ns.getD (if decide (ns.getD (k+1) 0 > ns.getD (argBest (fun i j=>decide (ns.getD i 0 > ns.getD j 0)) k) 0) = true then k+1 else argBest (fun i j=>decide (ns.getD i 0 > ns.getD j 0)) k) 0 = _
   by_cases hb:ns.getD (k+1) 0 > ns.getD (argBest (fun i j=>decide (ns.getD i 0 > ns.getD j 0)) k) 0
   . rw [if_pos (decide_eq_true hb),if_pos hb]
   . rw [if_neg (by simpa using hb),if_neg hb]
theorem xZ (hc:X.calm = true):bT X (.builtin "max") (fun xs H Q=>∃ (p:Addr) (ns:List Int),xs = [.ref p]/\ns≠[]/\SqL X.K H p (ns.map V.int)/\Q (.int (pF ns)) H):=by
 intro pins s σ H xs us Q I r h
 obtain ⟨p,ns,rfl,hne,hq,q⟩:=h
 obtain ⟨u,rfl,rx⟩:=vals1 r
 cases rx
 obtain ⟨its,rv,pl,hz⟩:=I.list hq
 have hlt:p < s.heap.objs.size:=by obtain ⟨o,e,_⟩:=pl.isList;exact aB e
 have hlen:its.toArray.size = ns.length:=by rw [aG,<- rv.length,aj]
 have hpos:0 < ns.length:=List.length_pos_iff.mpr hne
 have hval:∀ i v,its.toArray[i]? = some v->∃ t,v = Value.int (ns.getD i 0) t:=fun i v e=>zq rfl rv i v (by simpa using e)
 refine call_max_walk (hZ pl.isList ?_)
 refine ⟨s.heap.objs.size,[s.heap.objs.size,p],[s.heap.objs.size],its.toArray.size,_,_,fun i j=>decide (ns.getD i 0 > ns.getD j 0),rfl,yo (A:=X.A.in1) (I.ok.hd hc) s.heap.objs.size p (aH hlt) its.toArray,
  ⟨⟨_,aD _ rfl,rfl,rfl⟩,?_⟩,fun b hb=>?_,by rw [hlen];exact hpos,CmpOf.ints_gt (fun i=>ns.getD i 0) hval,fun v h' tk hv hk=>?_⟩
 . obtain ⟨o,e,r⟩:=pl.isList
   exact ⟨o,ah _ e,r⟩
 . have:b = s.heap.objs.size\/b = p:=by simpa using hb
   show b < (s.heap.push _).objs.size
   rw [bQ]
   rcases this with rfl | rfl
   . exact cS _
   . exact bu hlt
 . refine ⟨.int (pF ns),H,I.kept (h':=h') (t':=tk) fun b o e=>?_,?_,q⟩
   . exact hk b o (by simp;exact aH (aB e)) (ah _ e)
   . obtain ⟨t,rfl⟩:=hval _ _ hv
     refine ⟨t,?_⟩
     rw [sT ns _ (by omega),hlen,show ns.length - 1+1 = ns.length by omega,List.take_length]
theorem Bu {prog:Program} {w:World} {A:Around} {E:Value->Shared->Prop} {s:Shared} {t b:Addr} {ws:List Value} {Q:Value->Shared->Prop} (ht:IsTup s.heap t ([]:List Value).toArray) (hb:IsTup s.heap b ws.toArray) (h:Q (.ref b) s):wpAny (model prog w) A (binaryOp .Add (.ref t) (.ref b)) Q E s:=by
 obtain ⟨⟨cls,dd,data,sl⟩,ho,hc,n,hd⟩:=id ht
 obtain ⟨⟨cls2,dd2,data2,sl2⟩,ho2,hc2,n2,hd2⟩:=id hb
 simp only at hc hd hc2 hd2
 subst hc hd hc2 hd2
 exact BL ⟨_,ho,rfl⟩ ⟨_,ho2,rfl⟩ qG yk PySem.F.slot_tuple_add PySem.F.entry_tuple_add (PySem.F.args_tuple_add_2 _ _) (tuple_addW0 t b _ ws.toArray n n2 dd dd2 sl sl2 rfl) ⟨ho,ho2,h⟩
theorem DK:OpR X (binaryOp .Add) (fun x y H Q=>∃ a b ys,x = .ref a/\y = .ref b/\SqT X.K H a []/\SqT X.K H b ys/\Q (.ref b) H):=by
 intro pins s σ H x y v u Q I rx ry h
 obtain ⟨a,b,ys,rfl,rfl,ha,hb,q⟩:=h
 cases rx
 cases ry
 obtain ⟨its,r1,p1,_⟩:=I.tuple ha
 obtain ⟨its2,r2,p2,_⟩:=I.tuple hb
 cases r1
 exact Bu p1 p2 ⟨.ref b,H,I,rfl,q⟩
noncomputable def tyName:Blt->Option String
 | .isTup=>some "tuple"
 | _=>none
theorem HW {pins:List (Addr × Obj)} {σ:L2.St} {H:Hp} {s:Shared} {F:Addr->Prop} (I:Inv X pins σ H s) {ds:List D} {v:V} {u:Value} (h:cU X.K H F (.lst ds) v) (r:RelV v u):∃ l its,u = .ref l/\s.heap.IsList l its:=by
 rcases h with h | ⟨a,xs,_,_,rfl,h1,_⟩
 . unfold Rel at h
   obtain ⟨a,xs,rfl,h1,_⟩:=h
   obtain ⟨its,_,p,_⟩:=I.list h1.sq
   exact ⟨a,_,r,p.isList⟩
 . obtain ⟨its,_,p,_⟩:=I.list (.inl (.inl h1))
   exact ⟨a,_,r,p.isList⟩
theorem HV {pins:List (Addr × Obj)} {σ:L2.St} {H:Hp} {s:Shared} {F:Addr->Prop} (I:Inv X pins σ H s) {ds:List D} {v:V} {u:Value} (h:cU X.K H F (.tup ds) v) (r:RelV v u):∃ l its,u = .ref l/\s.heap.IsTuple l its:=by
 rcases h with h | ⟨a,xs,_,e,_⟩
 . unfold Rel at h
   obtain ⟨a,xs,rfl,h1,_⟩:=h
   obtain ⟨its,_,p,_⟩:=I.tuple h1
   exact ⟨a,_,r,p⟩
 . cases e
theorem Bv {f:Blt} {T:String} (hT:tyName f = some T):bT X (.builtin "isinstance") (fun xs H Q=>∃ F d x b,cU X.K H F d x/\xs = [x,.ty T]/\hX f [d] = some (.bl b)/\Q (.bl b) H):=by
 intro pins s σ H xs us Q I r h
 obtain ⟨F,d,x,b,hr,rfl,hb,q⟩:=h
 obtain ⟨u,w',rfl,ru,rw'⟩:=vals2 r
 cases (show w' = Value.type T from rw')
 have fin:∀ tk,EP X pins σ Q (.bool b) { s with toks:=tk }:=fun tk=>⟨.bl b,H,I.tok tk,rfl,q⟩
 cases d with
 | non=>have rd:=dU I hr ru (by unfold dep;omega);unfold RdV at rd;subst rd;cases f<;>simp [tyName] at hT<;>subst hT<;>simp [hX,gu] at hb<;>subst hb<;>exact PySem.W.kia_one PySem.W.kitx_none I.kIn True.intro rfl (fun z=>nomatch z) fin
 | bl y=>have rd:=dU I hr ru (by unfold dep;omega);unfold RdV at rd;subst rd;cases f<;>simp [tyName] at hT<;>subst hT<;>simp [hX,gu] at hb<;>subst hb<;>exact PySem.W.kia_one PySem.W.kitx_bool I.kIn True.intro rfl (fun z=>nomatch z) fin
 | int y=>have rd:=dU I hr ru (by unfold dep;omega);unfold RdV at rd;obtain ⟨t,rfl⟩:=rd;cases f<;>simp [tyName] at hT<;>subst hT<;>simp [hX,gu] at hb<;>subst hb<;>exact PySem.W.kia_one PySem.W.kitx_int I.kIn True.intro rfl (fun z=>nomatch z) fin
 | str y=>have rd:=dU I hr ru (by unfold dep;omega);unfold RdV at rd;obtain ⟨t,rfl⟩:=rd;cases f<;>simp [tyName] at hT<;>subst hT<;>simp [hX,gu] at hb<;>subst hb<;>exact PySem.W.kia_one PySem.W.kitx_str I.kIn True.intro rfl (fun z=>nomatch z) fin
 | lst y =>
   obtain ⟨l,its,rfl,⟨o,h1,h2,_⟩⟩:=HW I hr ru
   cases f<;>simp [tyName] at hT<;>subst hT<;>simp [hX,gu] at hb<;>subst hb<;>exact PySem.W.kia_one PySem.W.kitx_list I.kIn ⟨o,h1,h2⟩ rfl (fun z=>nomatch z) fin
 | tup y =>
   obtain ⟨l,its,rfl,⟨o,h1,h2,_⟩⟩:=HV I hr ru
   cases f<;>simp [tyName] at hT<;>subst hT<;>simp [hX,gu] at hb<;>subst hb<;>exact PySem.W.kia_one PySem.W.kitx_tuple I.kIn ⟨o,h1,h2⟩ rfl (fun z=>nomatch z) fin
 | fn _ _=>cases f<;>simp [tyName] at hT<;>simp [hX,gu] at hb
 | dct _ _=>cases f<;>simp [tyName] at hT<;>simp [hX,gu] at hb
noncomputable def Its (x:Str):L2.It:=⟨fun i _=>i < x.cps.size,fun i H v H'=>H' = H/\∃ c,x.cps[i]? = some c/\v = .str ⟨#[c]⟩,fun i _=>i = x.cps.size⟩
theorem lT {P:Program} {w:World} {K:PySem.W.Frag} {tg:Expr} {it:Addr} {n:Nat} {PV:Nat->Value->Prop} {St:Nat->Heap->Prop} {J:L2.It} {ty:String}
 (W:∀ A:Around,A.handled = none->Walks P w A it [it] [it] n PV St) (hst:∀ i h,St i h->∃ (o:Obj) (vs:Array Value),h.get? it = some o/\o.cls = .type ty/\o.data = .fields vs)
 (hn:["enumerate","zip","dict_itemiterator","dict_reverseitemiterator","odict_iterator","itertools.zip_longest","itertools.pairwise"].contains ty = false)
 (go:∀ i H,J.go i H->i < n) (stop:∀ i H,J.stop i H->i = n) (yld:∀ i v H,PV i v->∃ x,RelV x v/\J.yld i H x H)
 (self:∀ (A:Around) (i:Nat) (s:Shared) (Q:Value->Shared->Prop) (E:Value->Shared->Prop),St i s.heap->Q (.ref it) s->wpAny (model P w) A (pyIter (.ref it)) Q E s) :
 Turn P w K tg J [it] it St where
 mem:=by simp
 obj:=fun i h st b hb=>by
  have e:b = it:=by simpa using hb
  subst e
  obtain ⟨o,vs,e,c,d⟩:=hst i h st
  exact ⟨o,e,fun v z=>by rw [d] at z;cases z⟩
 keep:=fun i h h' st k=>(W { } rfl).frame i h h' st k
 item:=by
  intro X hP hw hK hc i pins s σ H E I hf st hg
  subst hP hw hK
  obtain ⟨f0,f1,f2,f3,f4,f5⟩:=hf it (by simp)
  refine (W X.A (I.ok.hd hc)).item i s _ _ (go i H hg) st fun v h' tk hv st' kk=>?_
  have I1:Inv X pins σ H { s with heap:=h',toks:=tk }:=I.turned (fun b o hb e=>kk b o (by simpa using hb) e) f0 f1 f3 f4 f5
  obtain ⟨o,vs,e,c,d⟩:=hst _ _ st'
  obtain ⟨x,r,y⟩:=yld i v H hv
  exact ⟨v,rfl,vQ (s:={ s with heap:=h',toks:=tk }) e c d hn ⟨x,H,I1,r,y,st',fun b hb=>(hf b hb).1⟩⟩
 done:=by
  intro X hP hw hK hc i pins s σ H E I hf st hg
  subst hP hw hK
  obtain ⟨f0,f1,f2,f3,f4,f5⟩:=hf it (by simp)
  have e:=stop i H hg
  subst e
  exact (W X.A (I.ok.hd hc)).done s _ _ st fun h' tk kk=>⟨rfl,I.turned (fun b o hb e=>kk b o (by simpa using hb) e) f0 f1 f3 f4 f5⟩
 self:=self
theorem zt {P:Program} {w:World} {K:PySem.W.Frag} {tg:Expr} (it:Addr) (x:Str) (t:Tok):Turn P w K tg (Its x) [it] it (fun i h=>h.IsStrIter it (strIterType x) x t i):=by
 unfold strIterType
 split
 . exact lT (ty:="str_ascii_iterator") (fun A hA=>Walks.strAscii hA it x t) (fun i h ⟨o,e,c,d⟩=>⟨o,_,e,c,d⟩) (by decide) (fun i H z=>z) (fun i H z=>z) (fun i v H ⟨c,u,h1,h2⟩=>⟨.str ⟨#[c]⟩,⟨u,h2⟩,rfl,c,h1,rfl⟩) fun _ _ _ _ _ st h=>wpAny_pyIter_striter_ascii st h
 . exact lT (ty:="str_iterator") (fun A hA=>Walks.strWide hA it x t) (fun i h ⟨o,e,c,d⟩=>⟨o,_,e,c,d⟩) (by decide) (fun i H z=>z) (fun i H z=>z) (fun i v H ⟨c,u,h1,h2⟩=>⟨.str ⟨#[c]⟩,⟨u,h2⟩,rfl,c,h1,rfl⟩) fun _ _ _ _ _ st h=>wpAny_pyIter_striter_wide st h
end
end PP
end
section
namespace PP
open PySem L2 PyProof.Rows PySem.SeqAt PySem.Calls
section
variable {prog:Program} {w:World} {A:Around} {R:Result->Shared->Prop} {I:Addr} {fp wr:List Addr} {n:Nat} {P:Nat->Value->Prop} {St:Nat->Heap->Prop}
end
variable {X:Cx} [Tbs]
end PP
end
section
namespace PP
open PySem L2 PySem.SeqAt PyProof.Rows PySem.W
open AutoSeq1 (wpAny_loadPart')
open MeetsSeq MeetsSeq2 MeetsSeq3 SeqRoads2
variable [Tbs]
noncomputable def BJ (A:Around) (s:Shared) (u v:Value) (b:Bool):Prop:=∀ (prog:Program) (w:World) (E:Value->Shared->Prop) (Q:Value->Shared->Prop),Q (.bool b) s->wpAny (model prog w) A (richCompare .Lt u v) Q E s
noncomputable def sX (A:Around) (s:Shared) (last:Bool):List (Value × Value)->Bool->Prop
 | [],b=>b = last
 | (p,q)::r,b=>∃ e,EqAt A s p q e/\if e = true then sX A s last r b else BJ A s p q b
theorem tV (l m:Addr) (xs ys:Array Value) (n n2:Nat) (dd dd2:Option Addr) (sl sl2:Array (Option Value)) (b:Bool) :
 Meets (Builtin.«tuple.__lt__» ⟨[.ref l,.ref m],[]⟩)
  (fun A R s=>s.heap.get? l = some ⟨.type "tuple",dd,.seq xs n,sl⟩/\s.heap.get? m = some ⟨.type "tuple",dd2,.seq ys n2,sl2⟩ /\
    sX A.in1 s (decide (xs.size < ys.size)) (xs.toList.zip ys.toList) b/\R (.ok (.ret (.bool b))) s) :=
 .of_wp fun prog w A R s h=>by
  obtain ⟨h0,g0,d0,t0,o0⟩:=s
  obtain ⟨hx,hy,hlex,hR⟩:=h
  have sub:=AutoSeq1.sub_tuple_tuple
  wp_walk using jk hx,jk hy,wpAny_forIn_list _ (fun rest st s'=>st.1 = none/\s' = ⟨h0,g0,d0,t0,o0⟩/\sX A.in1 ⟨h0,g0,d0,t0,o0⟩ (decide (xs.size < ys.size)) rest b) _
  case turn =>
   rintro ⟨y,x⟩ rest st s' ⟨hst,rfl,e,he,hr⟩
   refine ag (he prog w _ _ ?_)
   cases e with
   | true =>
     rw [if_pos rfl] at hr
     wp_walk
     exact ⟨rfl,rfl,hr⟩
   | false =>
     rw [if_neg ai] at hr
     have hr':∀ {Q:Value->Shared->Prop} {E:Value->Shared->Prop},Q (.bool b) ⟨h0,g0,d0,t0,o0⟩->wpAny (model prog w) A.in1 (richCompare .Lt y x) Q E ⟨h0,g0,d0,t0,o0⟩:=fun {Q E} h=>hr prog w E Q h
     wp_walk using hr'
     exact ⟨_,rfl,hR⟩
  case fin =>
   rintro ⟨b1,b2⟩ s' ⟨hst,rfl,hl⟩
   simp only at hst
   subst hst
   have hl:b = decide (xs.size < ys.size):=hl
   wp_walk
   refine ⟨_,rfl,?_⟩
   have:Builtin.Tuple.tupleCompareSizes .Lt xs.size ys.size = .bool b:=by rw [hl];rfl
   rw [this]
   exact hR
  case h=>exact ⟨rfl,rfl,hlex⟩
theorem BJ.tuples {A:Around} {s:Shared} {l m:Addr} {xs ys:Array Value} {b:Bool} (hx:s.heap.IsTuple l xs) (hy:s.heap.IsTuple m ys) (hu:A.units < cLine) (h:sX A.in1 s (decide (xs.size < ys.size)) (xs.toList.zip ys.toList) b):BJ A s (.ref l) (.ref m) b:=by
 intro prog w E Q q
 obtain ⟨⟨c1,d1,t1,s1⟩,e1,k1,n1,f1⟩:=hx
 obtain ⟨⟨c2,d2,t2,s2⟩,e2,k2,n2,f2⟩:=hy
 have k1:c1 = _:=k1
 have f1:t1 = _:=f1
 have k2:c2 = _:=k2
 have f2:t2 = _:=f2
 subst k1 f1 k2 f2
 have nn:Value.bool b≠Value.notImplemented:=fun z=>nomatch z
 exact richCompare_meets_room (op:=.Lt) ⟨_,e1,rfl⟩ ⟨_,e2,rfl⟩ F.slot_tuple_lt F.entry_tuple_lt (F.args_tuple_lt_2 _ _) (tV l m xs ys n1 n2 d1 d2 s1 s2 b) ⟨e1,e2,h,(show Value.bool b≠Value.notImplemented/\Q (.bool b) s from ⟨nn,q⟩)⟩ hu
mutual
theorem um:∀ (a b:D) (A:Around) (s:Shared) (u v:Value) (k:Bool),RdV s.heap a u->RdV s.heap b v->A.units+min (dep a) (dep b)+1 < cLine->ltD a b = some k->BJ A s u v k
 | .int a,b,A,s,u,v,k,ra,rb,hu,h=>by
   cases b with
   | int b =>
     unfold ltD at h
     cases h
     unfold RdV at ra rb
     obtain ⟨t,rfl⟩:=ra
     obtain ⟨t',rfl⟩:=rb
     intro prog w E Q q
     exact lt_int q
   | _=>unfold ltD at h;cases h
 | .str a,b,A,s,u,v,k,ra,rb,hu,h=>by
   cases b with
   | str b =>
     unfold ltD at h
     cases h
     unfold RdV at ra rb
     obtain ⟨t,rfl⟩:=ra
     obtain ⟨t',rfl⟩:=rb
     intro prog w E Q q
     exact lt_str q
   | _=>unfold ltD at h;cases h
 | .tup a,b,A,s,u,v,k,ra,rb,hu,h=>by
   cases b with
   | tup b =>
     unfold ltD at h
     unfold RdV at ra rb
     obtain ⟨l,xs,rfl,h1,h2⟩:=ra
     obtain ⟨m,ys,rfl,k1,k2⟩:=rb
     have n1:xs.size = a.length:=by simpa using h2.length
     have n2:ys.size = b.length:=by simpa using k2.length
     refine BJ.tuples h1 k1 (by omega) ?_
     rw [n1,n2]
     unfold dep at hu
     exact su a b A.in1 s xs.toList ys.toList k h2 k2 (by show A.units+1+_+1 < _;omega) h
   | _=>unfold ltD at h;cases h
 | .non,b,A,s,u,v,k,ra,rb,hu,h=>by cases b<;>(unfold ltD at h;cases h)
 | .bl x,b,A,s,u,v,k,ra,rb,hu,h=>by cases b<;>(unfold ltD at h;cases h)
 | .lst x,b,A,s,u,v,k,ra,rb,hu,h=>by cases b<;>(unfold ltD at h;cases h)
 | .fn x y,b,A,s,u,v,k,ra,rb,hu,h=>by cases b<;>(unfold ltD at h;cases h)
 | .dct x y,b,A,s,u,v,k,ra,rb,hu,h=>by cases b<;>(unfold ltD at h;cases h)
theorem su:∀ (as bs:List D) (A:Around) (s:Shared) (us vs:List Value) (k:Bool),RdL s.heap as us->RdL s.heap bs vs->A.units+min (bI as) (bI bs)+1 < cLine->dq as bs = some k->sX A s (decide (as.length < bs.length)) (us.zip vs) k
 | [],[],A,s,us,vs,k,ra,rb,hu,h=>by
   unfold RdL at ra rb
   subst ra;subst rb
   unfold dq at h
   cases h
   rfl
 | [],y::ys,A,s,us,vs,k,ra,rb,hu,h=>by
   unfold RdL at ra
   subst ra
   unfold dq at h
   cases h
   show true = decide _
   simp
 | x::xs,[],A,s,us,vs,k,ra,rb,hu,h=>by
   unfold RdL at rb
   subst rb
   unfold dq at h
   cases h
   rw [yz]
   show false = decide _
   simp
 | x::xs,y::ys,A,s,us,vs,k,ra,rb,hu,h=>by
   unfold RdL at ra rb
   obtain ⟨u,us',rfl,ra1,ra2⟩:=ra
   obtain ⟨v,vs',rfl,rb1,rb2⟩:=rb
   unfold dq at h
   unfold bI at hu
   refine ⟨eqD x y,mQ x y A s u v ra1 rb1 (by omega),?_⟩
   cases e:eqD x y with
   | true =>
     rw [e,if_pos rfl] at h
     rw [if_pos rfl]
     have:=su xs ys A s us' vs' k ra2 rb2 (by omega) h
     have e1:decide ((x::xs).length < (y::ys).length) = decide (xs.length < ys.length):=by simp
     rw [e1]
     exact this
   | false =>
     rw [e,if_neg ai] at h
     rw [if_neg ai]
     exact um x y A s u v k ra1 rb1 (by omega) h
end
theorem Hr {X:Cx} (hu:X.A.units+200 < cLine):OpR X (compareOp .Lt) (fun x y H Q=>∃ F a b k,cU X.K H F a x/\cU X.K H F b y/\iT a b = some k/\Q (.bl k) H):=by
 intro pins s σ H x y v u Q I rx ry h
 obtain ⟨F,a,b,k,ha,hb,e,q⟩:=h
 unfold iT at e
 split at e
 . exact um a b X.A s v u k (dU I ha rx (by omega)) (dU I hb ry (by omega)) (by omega) e X.prog X.w X.xe _ ⟨.bl k,H,I,rfl,q⟩
 . cases e
theorem DJ {X:Cx}:OpR X (binaryOp .Add) (fun x y H Q=>∃ l b xs zs,x = .ref l/\y = .ref b/\LsB X.K H l xs/\LsB X.K H b zs/\xs.length+zs.length<=sizeLine/\∀ p,H p = none->Q (.ref p) (upd H p (.lst (xs++zs)))):=by
 intro pins s σ H x y v u Q I rx ry h
 obtain ⟨l,b,xs,zs,rfl,rfl,h1,h2,hz,q⟩:=h
 cases rx
 cases ry
 obtain ⟨i1,n1,r1,e1,z1⟩:=h1.obj I
 obtain ⟨i2,n2,r2,e2,z2⟩:=h2.obj I
 have l1:=r1.length
 have l2:=r2.length
 refine PySem.P.add_list e1 e2 ?_ (by simp only [aG];omega)
 rw [show i1.toArray++i2.toArray = (i1++i2).toArray by simp]
 exact ⟨.ref _,_,I.lnew (t':=s.toks) (r1.append r2) (by rw [az];omega),rfl,q _ I.fresh⟩
end PP
end
section
namespace PP
open PySem PySem.W PyProof.Rows
noncomputable def inR {α:Type} (lt:Nat->Nat->Bool) (n:Nat):KasT α->Prop
 | .ret _=>True
 | .ask i j k=>i < n/\j < n/\inR lt n (k (lt i j))
theorem gF {α β:Type} {lt:Nat->Nat->Bool} {n:Nat} {f:α->KasT β}:∀ {t:KasT α},inR lt n t->inR lt n (f (ans lt t))->inR lt n (t.bind f)
 | .ret a,_,h=>h
 | .ask i j k,⟨h1,h2,h3⟩,h=>⟨h1,h2,gF h3 h⟩
theorem fU {α:Type} {lt:Nat->Nat->Bool} {n:Nat} {c:Prop} [Decidable c] {a b:KasT α} (h1:inR lt n a) (h2:inR lt n b):inR lt n (if c then a else b):=by
 by_cases h:c
 . rw [if_pos h];exact h1
 . rw [if_neg h];exact h2
noncomputable def All (p:Array Nat) (n:Nat):Prop:=0 < n/\∀ x∈p,x < n
theorem All.at {p:Array Nat} {n:Nat} (h:All p n) (k:Nat):p.getD k 0 < n:=by
 rw [getD_eq]
 cases e:p[k]? with
 | none=>exact h.1
 | some x=>exact h.2 x (tq e)
theorem All.perm {p q:Array Nat} {n:Nat} (h:All p n) (e:q.Perm p):All q n:=⟨h.1,fun x hx=>h.2 x (e.mem_iff.mp hx)⟩
section
variable {lt:Nat->Nat->Bool} {n:Nat}
theorem uC {p:Array Nat} (h:All p n):∀ f k,inR lt n (kas_asc p f k)
 | 0,k=>trivial
 | f+1,k=>⟨h.at _,h.at _,fU trivial (uC h f (k+1))⟩
theorem lF:∀ (f:Nat) (p:Array Nat) (k q:Nat),All p n->inR lt n (kas_desc f p k q)/\All (ans lt (kas_desc f p k q)).1 n
 | 0,p,k,q,h=>⟨trivial,h⟩
 | f+1,p,k,q,h=>by
   unfold kas_desc
   have r1:=lF f (kas_rev p (k - (q+1)) k) (k+1) 0 (h.perm (dz _ _ _))
   have r2:=lF f p (k+1) 0 h
   have r3:=lF f p (k+1) (q+1) h
   refine ⟨⟨h.at _,h.at _,fU (fU r1.1 r2.1) ⟨h.at _,h.at _,fU trivial r3.1⟩⟩,?_⟩
   rw [dP]
   cases lt (p.getD k 0) (p.getD (k - 1) 0) with
   | true =>
     rw [if_pos rfl]
     by_cases hq:q > 0
     . rw [if_pos hq];exact r1.2
     . rw [if_neg hq];exact r2.2
   | false =>
     rw [if_neg ai,dP]
     cases lt (p.getD (k - 1) 0) (p.getD k 0) with
     | true=>rw [if_pos rfl];exact h
     | false=>rw [if_neg ai];exact r3.2
theorem qY {p:Array Nat} (h:All p n) (a m:Nat):inR lt n (kas_tail3 a m p)/\All (ans lt (kas_tail3 a m p)).2 n:=by
 unfold kas_tail3
 have h':=h.perm (dz p 0 a)
 refine ⟨gF (uC h' _ _) trivial,?_⟩
 rw [cZ,fM]
 exact h'
theorem kF {p:Array Nat} (h:All p n) (a m:Nat):inR lt n (kas_descPart a m p)/\All (ans lt (kas_descPart a m p)).2 n:=by
 unfold kas_descPart
 obtain ⟨d1,d2⟩:=lF (lt:=lt) (m - (a+1)) p (a+1) 0 h
 rw [cZ]
 generalize hr:ans lt (kas_desc (m - (a+1)) p (a+1) 0) = r at d2
 have t1:=qY (lt:=lt) (d2.perm (dz r.1 (r.2.1 - (r.2.2+1)) r.2.1)) r.2.1 m
 have t2:=qY (lt:=lt) d2 r.2.1 m
 refine ⟨gF d1 (by rw [hr];exact fU t1.1 t2.1),?_⟩
 by_cases hq:r.2.2 > 0
 . rw [if_pos hq];exact t1.2
 . rw [if_neg hq];exact t2.2
theorem Br {p:Array Nat} (h:All p n) (m:Nat):inR lt n (kas_count m p)/\All (ans lt (kas_count m p)).2 n:=by
 unfold kas_count
 rw [cZ]
 have a1:=uC (lt:=lt) h (m - 1) 1
 generalize hk:ans lt (kas_asc p (m - 1) 1) = k
 have t1:=kF (lt:=lt) (h.perm (dz p 0 k)) k m
 have t2:=kF (lt:=lt) h k m
 refine ⟨gF a1 (by rw [hk];exact fU trivial (fU ⟨h.at _,h.at _,fU trivial t1.1⟩ t2.1)),?_⟩
 by_cases e:(k == m) = true
 . rw [if_pos e];exact h
 . rw [if_neg e]
   by_cases h1:k > 1
   . rw [if_pos h1,dP]
     cases lt (p.getD 0 0) (p.getD (k - 1) 0) with
     | true=>rw [if_pos rfl];exact h
     | false=>rw [if_neg ai];exact t1.2
   . rw [if_neg h1];exact t2.2
theorem mj {p:Array Nat} (h:All p n) (k:Nat):∀ f l r,inR lt n (kas_place p k f l r)
 | 0,l,r=>trivial
 | f+1,l,r=>by
   unfold kas_place
   exact fU trivial ⟨h.at _,h.at _,fU (mj h k f _ _) (mj h k f _ _)⟩
theorem Bz:∀ (f:Nat) (p:Array Nat) (k:Nat),All p n->inR lt n (kas_bin f p k)
 | 0,p,k,h=>trivial
 | f+1,p,k,h=>by
   unfold kas_bin
   exact gF (mj h k _ _ _) (Bz f _ _ (h.perm (Ey _ _ _)))
theorem uV (hn:0 < n):inR lt n (kas_sort n):=by
 unfold kas_sort
 have h:All (List.toArray (List.range n)) n:=⟨hn,fun x hx=>by simpa using hx⟩
 obtain ⟨c1,c2⟩:=Br (lt:=lt) h n
 exact gF c1 (fU (Bz _ _ _ c2) trivial)
end
theorem vI {α:Type} {prog:Program} {w:World} {A:Around} {κ:SortKind} {vs:List Value} {lt:Nat->Nat->Bool} {n:Nat} {s:Shared} {Q:α->Shared->Prop}
 (ha:∀ i j,i < n->j < n->∀ C:Bool->Shared->Prop,C (lt i j) s->kas_ask prog w A κ vs i j C s):∀ t:KasT α,inR lt n t->Q (ans lt t) s->t.kasWp (kas_ask prog w A κ vs) Q s
 | .ret a,_,q=>q
 | .ask i j k,⟨h1,h2,h3⟩,q=>ha i j h1 h2 _ (vI ha (k (lt i j)) h3 q)
noncomputable def eE (lt:Nat->Nat->Bool) (vs:List Value):List Value:=if vs.length < 2 then vs else (ans lt (kas_sort vs.length)).toList.map fun i=>vs.getD i Value.none
section
variable {prog:Program} {w:World} {A:Around} {E:Value->Shared->Prop} {s:Shared}
theorem jD {a:Addr} {vs:List Value} {n:Nat} {lt:Nat->Nat->Bool} {κ:SortKind} {P:PySem.Fin->Shared->Prop} (ho:s.heap.get? a = some (seqObj "list" vs.toArray n)) (h64:vs.length < 64)
 (hlen:(eE lt vs).length = vs.length)
 (hk:2<=vs.length->∀ h':Heap,(∀ b o,b≠a->s.heap.get? b = some o->h'.get? b = some o)->∀ C:SortKind->Shared->Prop,C κ { s with heap:=h' }->wpAny (model prog w) A (keyKind' vs.toArray) C (fun _ _=>False) { s with heap:=h' })
 (ha:∀ h':Heap,(∀ b o,b≠a->s.heap.get? b = some o->h'.get? b = some o)->∀ i j,i < vs.length->j < vs.length->∀ C:Bool->Shared->Prop,C (lt i j) { s with heap:=h' }->kas_ask prog w A κ vs i j C { s with heap:=h' })
 (q:P (.done (.ret .none)) { s with heap:=sortedHeap s.heap a vs (eE lt vs).toArray }):wpAny (model prog w) A (Builtin.«list.sort» ⟨[.ref a],[]⟩) P E s:=by
 have la:a < s.heap.objs.size:=aB ho
 obtain ⟨e1,o1⟩:∃ e1,(s.heap.update a (Obj.mapSeq fun _=>(#[]:Array Value))).get? a = some (seqObj "list" #[] e1):=⟨_,sY ho fun _ => #[]⟩
 have o3:(((s.heap.update a (Obj.mapSeq fun _=>(#[]:Array Value))).push (seqObj "tuple" vs.toArray 0)).push (seqObj "list" #[] 0)).get? a = some (seqObj "list" #[] e1):=ah _ (ah _ o1)
 have keep:∀ b o,b≠a->s.heap.get? b = some o->(((s.heap.update a (Obj.mapSeq fun _=>(#[]:Array Value))).push (seqObj "tuple" vs.toArray 0)).push (seqObj "list" #[] 0)).get? b = some o:=fun b o hb e =>
  ah _ (ah _ ((fe _ _ (Ne.symm hb)).trans e))
 have sz:(eE lt vs).toArray.size<=sizeLine:=by rw [aG,hlen,bM];omega
 rw [list_sort_plain]
 refine ag (listItems_at ho rfl (ag (iE ho rfl ?_ (by rw [aG,bM];omega) (bA _))))
 refine ag (Ex o1 rfl (ag (wpAny_newTuple ?_ (by show vs.length<=_;rw [bM];omega))))
 refine ag (yj (cN ?_) (bA _))
 show wpAny (model prog w) A _ P E { s with heap:=((s.heap.update a (Obj.mapSeq fun _=>(#[]:Array Value))).push (seqObj "tuple" vs.toArray 0)).push (seqObj "list" #[] 0) }
 dsimp only
 by_cases h2:vs.toArray.size < 2
 . have hv:vs.length < 2:=by simpa using h2
   have eo:eE lt vs = vs:=by unfold eE;rw [if_pos hv]
   rw [if_pos h2,if_pos h2]
   refine ag (ar ?_)
   rw [StateT.run_pure]
   refine ag (ar ?_)
   dsimp only
   refine ag (Ex o3 rfl ?_)
   have em:(arrOf (SortSt.mk' general' (vs.toArray.zip vs.toArray) #[] 7 none)).map (·.2) = (eE lt vs).toArray:=by
    rw [eo]
    show (vs.toArray.zip vs.toArray).map (·.2) = vs.toArray
    apply Array.ext
    . simp
    . intro i h1 h2
      simp
   rw [em]
   refine ag (iE o3 rfl ?_ (bA _) (BQ sz))
   simp only [bne_self_eq_false,ae,if_false]
   exact ar q
 . have hv:¬ vs.length < 2:=by simpa using h2
   have eo:eE lt vs = (ans lt (kas_sort vs.length)).toList.map fun i=>vs.getD i Value.none:=by unfold eE;rw [if_neg hv]
   rw [if_neg h2,if_neg h2]
   refine ag (fk (hk (by omega) _ keep (fun κ' s'=>κ' = κ/\s' = { s with heap:=((s.heap.update a (Obj.mapSeq fun _=>(#[]:Array Value))).push (seqObj "tuple" vs.toArray 0)).push (seqObj "list" #[] 0) }) ⟨rfl,rfl⟩) (fun κ' s0 hk=>?_) fun _ _ x=>x.elim)
   obtain ⟨rfl,rfl⟩:=hk
   refine ag (fk (kat_run (Q:=fun st' s'=>s' = { s with heap:=((s.heap.update a (Obj.mapSeq fun _=>(#[]:Array Value))).push (seqObj "tuple" vs.toArray 0)).push (seqObj "list" #[] 0) }/\∃ p:Array Nat,arrOf st' = p.map (kas_item (vs.toArray.zip vs.toArray))/\failedOf st' = none/\p = ans lt (kas_sort vs.length))
    (G:=fun p s'=>s' = { s with heap:=((s.heap.update a (Obj.mapSeq fun _=>(#[]:Array Value))).push (seqObj "tuple" vs.toArray 0)).push (seqObj "list" #[] 0) }/\p = ans lt (kas_sort vs.length)) rfl (by omega) h64 (fun p st' s' a1 a2 a3 a4=>⟨a4.1,p,a2,a3,a4.2⟩)
    (vI (lt:=lt) (n:=vs.length) (fun i j h1 h2 C hc=>ha _ keep i j h1 h2 C hc) _ (uV (by omega)) ⟨rfl,rfl⟩)) ?_ fun _ _ e=>e)
   rintro ⟨⟨⟩,st'⟩ s' ⟨rfl,p,har,hf,rfl⟩
   dsimp only
   rw [kat_snds rfl har,<- eo]
   refine ag (Ex o3 rfl (ag (iE o3 rfl ?_ (bA _) (BQ sz))))
   rw [hf]
   simp only [bne_self_eq_false,ae,if_false]
   exact ar q
theorem xk {l:Addr} {vs:List Value} {lt:Nat->Nat->Bool} {κ:SortKind} {Q:Value->Shared->Prop} (hl:s.heap.IsList l vs.toArray) (h64:vs.length < 64) (hlen:(eE lt vs).length = vs.length)
 (hk:2<=vs.length->∀ (A':Around) (h':Heap),A'.units<=A.units+2->(∀ b o,s.heap.get? b = some o->h'.get? b = some o)->∀ C:SortKind->Shared->Prop,C κ { s with heap:=h' }->wpAny (model prog w) A' (keyKind' vs.toArray) C (fun _ _=>False) { s with heap:=h' })
 (ha:∀ (A':Around) (h':Heap),A'.units<=A.units+2->(∀ b o,s.heap.get? b = some o->h'.get? b = some o)->∀ i j,i < vs.length->j < vs.length->∀ C:Bool->Shared->Prop,C (lt i j) { s with heap:=h' }->kas_ask prog w A' κ vs i j C { s with heap:=h' })
 (q:Q (.ref (s.heap.objs.size+1)) { s with heap:=sortedAll s.heap vs (eE lt vs).toArray }):wpAny (model prog w) A (call (.builtin "sorted") [.ref l]) Q E s:=by
 refine gB kind_sorted plain_sorted entry_sorted (args_sorted1 _) ?_
 unfold Builtin.«sorted»
 refine ag (m:=checkCount "sorted" 1 1 _) (ar ?_)
 refine ag (collect_list hl (ag (yj ?_ (by rw [bM];omega))) (by rw [bM];omega))
 have hs:((s.heap.push (seqObj "list" #[] 0)).update s.heap.objs.size (Obj.mapSeq (·++vs.toArray))).objs.size = s.heap.objs.size+1:=by rw [Heap.size_update,size_push']
 have hL:(((s.heap.push (seqObj "list" #[] 0)).update s.heap.objs.size (Obj.mapSeq (·++vs.toArray))).push (seqObj "list" vs.toArray 0)).get? (s.heap.objs.size+1) = some (seqObj "list" vs.toArray 0):=by
  rw [<- hs];exact aD _ rfl
 have keep:∀ b o,s.heap.get? b = some o->b≠s.heap.objs.size+1/\(((s.heap.push (seqObj "list" #[] 0)).update s.heap.objs.size (Obj.mapSeq (·++vs.toArray))).push (seqObj "list" vs.toArray 0)).get? b = some o:=fun b o e=>by
  have hlt:b < s.heap.objs.size:=aB e
  exact ⟨aH (bu hlt),ah _ ((fe _ _ (uH hlt)).trans (ah _ e))⟩
 show wpAny _ _ _ _ _ { s with heap:=((s.heap.push (seqObj "list" #[] 0)).update s.heap.objs.size (Obj.mapSeq (·++vs.toArray))).push (seqObj "list" vs.toArray 0) }
 rw [hs]
 refine ag (cN (cL slot_list_sort ⟨_,hL,rfl⟩ entry_list_sort ?body (args_list_sort _)))
 case body =>
  refine jD (lt:=lt) (κ:=κ) hL h64 hlen (fun h2 h' kp=>hk h2 _ h' ?_ fun b o e=>kp b o (keep b o e).1 (keep b o e).2) (fun h' kp=>ha _ h' ?_ fun b o e=>kp b o (keep b o e).1 (keep b o e).2) ?_
  . exact ay _
  . exact ay _
  . exact ⟨_,rfl,ar ⟨_,rfl,q⟩⟩
end
end PP
end
section
namespace PP
open PySem L2 PySem.SeqAt PyProof.Rows PySem.W
variable [Tbs]
section
variable {lt:Nat->Nat->Bool}
theorem iM:∀ (f:Nat) (p:Array Nat) (k q:Nat),(ans lt (kas_desc f p k q)).1.Perm p
 | 0,p,k,q=>cw _
 | f+1,p,k,q=>by
   unfold kas_desc
   rw [dP]
   cases lt (p.getD k 0) (p.getD (k - 1) 0) with
   | true =>
     rw [if_pos rfl]
     by_cases hq:q > 0
     . rw [if_pos hq];exact (iM f _ _ _).trans (dz _ _ _)
     . rw [if_neg hq];exact iM f _ _ _
   | false =>
     rw [if_neg ai,dP]
     cases lt (p.getD (k - 1) 0) (p.getD k 0) with
     | true=>rw [if_pos rfl];exact cw _
     | false=>rw [if_neg ai];exact iM f _ _ _
theorem lV (a m:Nat) (p:Array Nat):(ans lt (kas_tail3 a m p)).2.Perm p:=by
 unfold kas_tail3
 rw [cZ,fM]
 exact dz _ _ _
theorem ja (a m:Nat) (p:Array Nat):(ans lt (kas_descPart a m p)).2.Perm p:=by
 unfold kas_descPart
 rw [cZ]
 have d:=iM (lt:=lt) (m - (a+1)) p (a+1) 0
 generalize ans lt (kas_desc (m - (a+1)) p (a+1) 0) = r at d
 by_cases hq:r.2.2 > 0
 . rw [if_pos hq];exact ((lV _ _ _).trans (dz _ _ _)).trans d
 . rw [if_neg hq];exact (lV _ _ _).trans d
theorem uu (m:Nat) (p:Array Nat):(ans lt (kas_count m p)).2.Perm p:=by
 unfold kas_count
 rw [cZ]
 generalize ans lt (kas_asc p (m - 1) 1) = k
 by_cases e:(k == m) = true
 . rw [if_pos e];exact cw _
 . rw [if_neg e]
   by_cases h1:k > 1
   . rw [if_pos h1,dP]
     cases lt (p.getD 0 0) (p.getD (k - 1) 0) with
     | true=>rw [if_pos rfl];exact cw _
     | false=>rw [if_neg ai];exact (ja _ _ _).trans (dz _ _ _)
   . rw [if_neg h1];exact ja _ _ _
theorem sS:∀ (f:Nat) (p:Array Nat) (k:Nat),(ans lt (kas_bin f p k)).Perm p
 | 0,p,k=>cw _
 | f+1,p,k=>by
   unfold kas_bin
   rw [cZ]
   exact (sS f _ _).trans (Ey _ _ _)
theorem xl (n:Nat):(ans lt (kas_sort n)).Perm (List.toArray (List.range n)):=by
 unfold kas_sort
 rw [cZ]
 have c:=uu (lt:=lt) n (List.toArray (List.range n))
 generalize ans lt (kas_count n (List.toArray (List.range n))) = r at c
 by_cases h:r.1 < n
 . rw [if_pos h];exact (sS _ _ _).trans c
 . rw [if_neg h];exact c
theorem fh (n:Nat):(ans lt (kas_sort n)).toList.Perm (List.range n):=by
 have:=(xl (lt:=lt) n).toList
 simpa using this
end
mutual
theorem RdV.keep {h h':Heap} (k:∀ b o,h.get? b = some o->h'.get? b = some o):∀ (d:D) (u:Value),RdV h d u->RdV h' d u
 | .non,u,r=>by unfold RdV at r ⊢;exact r
 | .bl _,u,r=>by unfold RdV at r ⊢;exact r
 | .int _,u,r=>by unfold RdV at r ⊢;exact r
 | .str _,u,r=>by unfold RdV at r ⊢;exact r
 | .lst ds,u,r=>by
   unfold RdV at r ⊢
   obtain ⟨a,its,e,⟨o,h1,h2⟩,h3⟩:=r
   exact ⟨a,its,e,⟨o,k _ _ h1,h2⟩,RdL.keep k ds _ h3⟩
 | .tup ds,u,r=>by
   unfold RdV at r ⊢
   obtain ⟨a,its,e,⟨o,h1,h2⟩,h3⟩:=r
   exact ⟨a,its,e,⟨o,k _ _ h1,h2⟩,RdL.keep k ds _ h3⟩
 | .fn _ _,u,r=>by unfold RdV at r;exact r.elim
 | .dct _ _,u,r=>by unfold RdV at r;exact r.elim
theorem RdL.keep {h h':Heap} (k:∀ b o,h.get? b = some o->h'.get? b = some o):∀ (ds:List D) (us:List Value),RdL h ds us->RdL h' ds us
 | [],us,r=>by unfold RdL at r ⊢;exact r
 | d::ds,us,r=>by
   unfold RdL at r ⊢
   obtain ⟨w,ws,e,r1,r2⟩:=r
   exact ⟨w,ws,e,RdV.keep k d w r1,RdL.keep k ds ws r2⟩
end
theorem RdL.nth {h:Heap}:∀ {ds:List D} {us:List Value} (i:Nat),RdL h ds us->i < ds.length->RdV h (ds.getD i .non) (us.getD i Value.none)
 | [],us,i,r,hi=>by simp at hi
 | d::ds,us,i,r,hi=>by
   unfold RdL at r
   obtain ⟨w,ws,rfl,r1,r2⟩:=r
   cases i with
   | zero=>exact r1
   | succ i=>exact RdL.nth i r2 (by simpa using hi)
section
variable {prog:Program} {w:World} {s:Shared}
theorem EI {A:Around} {E:Value->Shared->Prop} {a b:D} {u v:Value} {k:Bool} {Q:Bool->Shared->Prop} (ra:RdV s.heap a u) (rb:RdV s.heap b v) (hk:(bo a = 1/\bo b = 1)\/(bo a = 2/\bo b = 2)) (h:ltD a b = some k) (q:Q k s):wpAny (model prog w) A (oneLt' true u v) Q E s:=by
 rcases hk with ⟨h1,h2⟩ | ⟨h1,h2⟩
 . cases a<;>first | (simp [bo] at h1;done) | skip
   . cases b<;>first | (simp [bo] at h2;done) | skip
     . unfold RdV at ra rb
       obtain ⟨t,rfl⟩:=ra
       obtain ⟨t',rfl⟩:=rb
       unfold ltD at h
       cases h
       exact oneLt_str q
     . rename_i l;cases l with
       | nil=>simp [bo] at h2
       | cons x r=>cases x<;>simp [bo] at h2
   . rename_i l;cases l with
     | nil=>simp [bo] at h1
     | cons x r=>cases x<;>simp [bo] at h1
 . cases a<;>first | (simp [bo] at h1;done) | skip
   . cases b<;>first | (simp [bo] at h2;done) | skip
     . unfold RdV at ra rb
       obtain ⟨t,rfl⟩:=ra
       obtain ⟨t',rfl⟩:=rb
       unfold ltD at h
       cases h
       exact oneLt_int q
     . rename_i l;cases l with
       | nil=>simp [bo] at h2
       | cons x r=>cases x<;>simp [bo] at h2
   . rename_i l;cases l with
     | nil=>simp [bo] at h1
     | cons x r=>cases x<;>simp [bo] at h1
theorem sv {A:Around} {fin:Bool} {Q:Bool->Shared->Prop} {k:Bool}:∀ (as bs:List D) (us vs:List Value) (i:Nat),RdL s.heap as us->RdL s.heap bs vs->A.units+min (bI as) (bI bs)+1 < cLine->dq as bs = some k->fin = decide (as.length < bs.length) ->
 (i = 0->∀ x y,as.head? = some x->bs.head? = some y->(bo x = 1/\bo y = 1)\/(bo x = 2/\bo y = 2))->Q k s->KatLex prog w A true fin Q (us.zip vs) i s
 | [],[],us,vs,i,ra,rb,hu,h,hf,hh,q=>by
   unfold RdL at ra rb
   subst ra;subst rb
   unfold dq at h
   cases h
   subst hf
   exact kat_nil q
 | [],y::ys,us,vs,i,ra,rb,hu,h,hf,hh,q=>by
   unfold RdL at ra
   subst ra
   unfold dq at h
   cases h
   have:fin = true:=by rw [hf];simp
   subst this
   exact kat_nil q
 | x::xs,[],us,vs,i,ra,rb,hu,h,hf,hh,q=>by
   unfold RdL at rb
   subst rb
   unfold dq at h
   cases h
   have:fin = false:=by rw [hf];simp
   subst this
   rw [yz]
   exact kat_nil q
 | x::xs,y::ys,us,vs,i,ra,rb,hu,h,hf,hh,q=>by
   unfold RdL at ra rb
   obtain ⟨u,us',rfl,ra1,ra2⟩:=ra
   obtain ⟨v,vs',rfl,rb1,rb2⟩:=rb
   unfold dq at h
   unfold bI at hu
   rw [List.zip_cons_cons]
   refine kat_cons (mQ x y A s u v ra1 rb1 (by omega) prog w _ _ ?_)
   cases e:eqD x y with
   | true =>
     rw [e,if_pos rfl] at h
     exact kat_yes (sv xs ys us' vs' (i+1) ra2 rb2 (by omega) h (by rw [hf];simp) (fun z=>by omega) q)
   | false =>
     rw [e,if_neg ai] at h
     refine kat_no ?_
     by_cases hi:i = 0
     . subst hi
       exact EI ra1 rb1 (hh rfl x y rfl rfl) h q
     . have e0:(true && i == 0) = false:=by simp [hi]
       rw [e0]
       exact kat_one u v (um x y A s u v k ra1 rb1 (by omega) h prog w _ _ q)
end
end PP
end
section
namespace PP
open PySem
structure Ck where
 N:List Str
 sc:Scope
 fns:List (Str × List Str)
 gn:List Str
noncomputable def xa (sc:Scope) (x:Str):Bool:=match sc.names.lookup x with
 | some .local=>true | some .cell=>true | some .free=>true | _=>false
noncomputable def HL (sc:Scope) (x:Str):Bool:=match sc.names.lookup x with
 | some .local=>true | some .cell=>true | _=>false
noncomputable def glB (sc:Scope) (x:Str):Bool:=match sc.names.lookup x with
 | some .globalImplicit=>true | _=>false
noncomputable def AA (x:Str):Bool:=!(x == ("__debug__":Str)) && !(x == ("__classdict__":Str)) && !(x == ("__name__":Str))
noncomputable def gk (c:Ck) (i:Nat) (x:Str):Bool:=decide (c.N[i]? = some x) && xa c.sc x && AA x
noncomputable def eX (c:Ck) (i:Nat) (x:Str):Bool:=decide (c.N[i]? = some x) && HL c.sc x && AA x
noncomputable def eC (c:Ck) (x:Str):Bool:=glB c.sc x && AA x
noncomputable def JG:Op->Operator->Bool
 | .add,.Add=>true | .sub,.Sub=>true | .mul,.Mult=>true | .mod,.Mod=>true | .fdiv,.FloorDiv=>true | .pow,.Pow=>true
 | _,_=>false
noncomputable def vX:Cop->CmpOp->Bool
 | .lt,.Lt=>true | .le,.LtE=>true | .gt,.Gt=>true | .eq,.Eq=>true | .ne,.NotEq=>true | .isin,.In=>true | .notin,.NotIn=>true | .is,.Is=>true
 | _,_=>false
noncomputable def oW:Blt->Str
 | .len=>"len" | .min=>"min" | .max=>"max" | .toInt=>"int" | .toStr=>"str" | .toTup=>"tuple" | .toLst=>"list" | .dvm=>"divmod" | .any=>"any" | .sorted=>"sorted"
 | .isTup=>"isinstance"
noncomputable def jM:List Str:=["len","min","max","int","str","tuple","list","dict","sum","isinstance","bool","range","sorted","set","zip","any","divmod","reversed","all"]
noncomputable def ir:Es->Bool
 | .nil=>true
 | .cons e es=>!bG e && ir es
noncomputable def nN:Es->Bool
 | .nil=>true
 | .cons e es=>(!bG e || npS es) && nN es
noncomputable def Bm:Es->Nat
 | .nil=>0
 | .cons _ es=>Bm es+1
noncomputable def st (x:Expr):Str:=match x with
 | .Name y _=>y
 | .Attribute _ m _=>m
 | _=>""
noncomputable def cst (x:Expr):Const:=match x with
 | .Constant v _ _=>v
 | _=>.none
noncomputable def e1 (x:Expr):Expr:=match x with
 | .BinOp y _ _ _=>y
 | .Compare y _ _ _=>y
 | .UnaryOp _ y _=>y
 | .IfExp t _ _ _=>t
 | .Subscript y _ _=>y
 | .Call f _ _ _=>f
 | .Attribute y _ _=>y
 | .ListComp e _ _ _=>e
 | .SetComp e _ _ _=>e
 | _=>x
noncomputable def bop (x:Expr):Operator:=match x with
 | .BinOp _ o _ _=>o
 | _=>.Add
noncomputable def e2 (x:Expr):Expr:=match x with
 | .BinOp _ _ z _=>z
 | .IfExp _ y _ _=>y
 | .Subscript _ z _=>z
 | _=>x
noncomputable def Ll (x:Expr):List CmpOp:=match x with
 | .Compare _ os _ _=>os
 | _=>[]
noncomputable def ls (x:Expr):List Expr:=match x with
 | .Compare _ _ zs _=>zs
 | .BoolOp _ vs _=>vs
 | .Tuple es _ _=>es
 | .List es _=>es
 | .Call _ as _ _=>as
 | _=>[]
noncomputable def Ln (x:Expr):PySem.BoolOp:=match x with
 | .BoolOp o _ _=>o
 | _=>.And
noncomputable def po (x:Expr):Pos:=match x with
 | .Name _ p=>p
 | .BoolOp _ _ p=>p
 | .Call _ _ _ p=>p
 | .Attribute _ _ p=>p
 | .ListComp _ _ _ p=>p
 | _=>⟨0,0,0,0⟩
noncomputable def uop (x:Expr):PySem.UnaryOp:=match x with
 | .UnaryOp o _ _=>o
 | _=>.Not
noncomputable def e3 (x:Expr):Expr:=match x with
 | .IfExp _ _ z _=>z
 | _=>x
noncomputable def o1 (x:Expr):Option Expr:=match x with
 | .Slice l _ _ _=>l
 | _=>none
noncomputable def o2 (x:Expr):Option Expr:=match x with
 | .Slice _ h _ _=>h
 | _=>none
noncomputable def o3 (x:Expr):Option Expr:=match x with
 | .Slice _ _ s _=>s
 | _=>none
noncomputable def kws (x:Expr):List Keyword:=match x with
 | .Call _ _ ks _=>ks
 | _=>[]
noncomputable def gns (x:Expr):List Comprehension:=match x with
 | .ListComp _ gs _ _=>gs
 | .SetComp _ gs _ _=>gs
 | _=>[]
noncomputable def scp (x:Expr) (d:Scope):Scope:=match x with
 | .ListComp _ _ sc _=>sc
 | .SetComp _ _ sc _=>sc
 | _=>d
noncomputable def gP:Expr->Nat
 | .Name .. => 0
 | .Constant .. => 1
 | .BinOp .. => 2
 | .Compare .. => 3
 | .BoolOp .. => 4
 | .UnaryOp .. => 5
 | .IfExp .. => 6
 | .Tuple .. => 7
 | .List .. => 8
 | .Subscript .. => 9
 | .Slice .. => 10
 | .Call .. => 11
 | .Attribute .. => 12
 | .ListComp .. => 13
 | .SetComp .. => 14
 | .JoinedStr .. => 15
 | .FormattedValue .. => 16
 | _=>99
noncomputable def JX (x:Expr):Nat->Prop
 | 0=>∃ y p,x = .Name y p
 | 1=>∃ v n p,x = .Constant v n p
 | 2=>∃ y o z p,x = .BinOp y o z p
 | 3=>∃ y os zs p,x = .Compare y os zs p
 | 4=>∃ o vs p,x = .BoolOp o vs p
 | 5=>∃ o y p,x = .UnaryOp o y p
 | 6=>∃ t y z p,x = .IfExp t y z p
 | 7=>∃ es n p,x = .Tuple es n p
 | 8=>∃ es p,x = .List es p
 | 9=>∃ y z p,x = .Subscript y z p
 | 10=>∃ l u s p,x = .Slice l u s p
 | 11=>∃ f as ks p,x = .Call f as ks p
 | 12=>∃ y m p,x = .Attribute y m p
 | 13=>∃ e gs sc p,x = .ListComp e gs sc p
 | 14=>∃ e gs sc p,x = .SetComp e gs sc p
 | 15=>∃ vs p,x = .JoinedStr vs p
 | 16=>∃ y cv sp p,x = .FormattedValue y cv sp p
 | _=>True
theorem Bc (x:Expr):JX x (gP x):=by
 cases x<;>first | trivial | exact ⟨_,_,rfl⟩ | exact ⟨_,_,_,rfl⟩ | exact ⟨_,_,_,_,rfl⟩ | exact ⟨_,_,_,_,_,rfl⟩
theorem dy {x:Expr} {n:Nat} {b:Bool} (h:((gP x == n) && b) = true):JX x n/\b = true:=by
 rw [aa] at h
 exact ⟨eq_of_beq h.1▸Bc x,h.2⟩
@[irreducible] noncomputable def dw (x:Expr) (k:Str->Bool):Bool:=(gP x == 0) && k (st x)
theorem bL {x:Expr} {k:Str->Bool} (h:dw x k = true):∃ y p,x = .Name y p/\k y = true:=by
 unfold dw at h
 obtain ⟨⟨y,p,rfl⟩,h⟩:=dy h
 exact ⟨y,p,rfl,h⟩
@[irreducible] noncomputable def onC (x:Expr) (k:Const->Bool):Bool:=(gP x == 1) && k (cst x)
theorem mB {x:Expr} {k:Const->Bool} (h:onC x k = true):∃ v n p,x = .Constant v n p/\k v = true:=by
 unfold onC at h
 obtain ⟨⟨v,n,p,rfl⟩,h⟩:=dy h
 exact ⟨v,n,p,rfl,h⟩
@[irreducible] noncomputable def Ax (x:Expr) (k:Expr->Operator->Expr->Bool):Bool:=(gP x == 2) && k (e1 x) (bop x) (e2 x)
theorem sh {x:Expr} {k:Expr->Operator->Expr->Bool} (h:Ax x k = true):∃ y o z p,x = .BinOp y o z p/\k y o z = true:=by
 unfold Ax at h
 obtain ⟨⟨y,o,z,p,rfl⟩,h⟩:=dy h
 exact ⟨y,o,z,p,rfl,h⟩
@[irreducible] noncomputable def Av (x:Expr) (k:Expr->List CmpOp->List Expr->Bool):Bool:=(gP x == 3) && k (e1 x) (Ll x) (ls x)
theorem mz {x:Expr} {k:Expr->List CmpOp->List Expr->Bool} (h:Av x k = true):∃ y os zs p,x = .Compare y os zs p/\k y os zs = true:=by
 unfold Av at h
 obtain ⟨⟨y,os,zs,p,rfl⟩,h⟩:=dy h
 exact ⟨y,os,zs,p,rfl,h⟩
@[irreducible] noncomputable def Aw (x:Expr) (k:PySem.BoolOp->List Expr->Pos->Bool):Bool:=(gP x == 4) && k (Ln x) (ls x) (po x)
theorem jC {x:Expr} {k:PySem.BoolOp->List Expr->Pos->Bool} (h:Aw x k = true):∃ o vs p,x = .BoolOp o vs p/\k o vs p = true:=by
 unfold Aw at h
 obtain ⟨⟨o,vs,p,rfl⟩,h⟩:=dy h
 exact ⟨o,vs,p,rfl,h⟩
@[irreducible] noncomputable def Ap (x:Expr) (k:PySem.UnaryOp->Expr->Bool):Bool:=(gP x == 5) && k (uop x) (e1 x)
theorem ly {x:Expr} {k:PySem.UnaryOp->Expr->Bool} (h:Ap x k = true):∃ o y p,x = .UnaryOp o y p/\k o y = true:=by
 unfold Ap at h
 obtain ⟨⟨o,y,p,rfl⟩,h⟩:=dy h
 exact ⟨o,y,p,rfl,h⟩
@[irreducible] noncomputable def Hz (x:Expr) (k:Expr->Expr->Expr->Bool):Bool:=(gP x == 6) && k (e1 x) (e2 x) (e3 x)
theorem vt {x:Expr} {k:Expr->Expr->Expr->Bool} (h:Hz x k = true):∃ t y z p,x = .IfExp t y z p/\k t y z = true:=by
 unfold Hz at h
 obtain ⟨⟨t,y,z,p,rfl⟩,h⟩:=dy h
 exact ⟨t,y,z,p,rfl,h⟩
@[irreducible] noncomputable def kD (x:Expr) (k:List Expr->Bool):Bool:=(gP x == 7) && k (ls x)
theorem eU {x:Expr} {k:List Expr->Bool} (h:kD x k = true):∃ es n p,x = .Tuple es n p/\k es = true:=by
 unfold kD at h
 obtain ⟨⟨es,n,p,rfl⟩,h⟩:=dy h
 exact ⟨es,n,p,rfl,h⟩
@[irreducible] noncomputable def se (x:Expr) (k:List Expr->Bool):Bool:=(gP x == 8) && k (ls x)
theorem ik {x:Expr} {k:List Expr->Bool} (h:se x k = true):∃ es p,x = .List es p/\k es = true:=by
 unfold se at h
 obtain ⟨⟨es,p,rfl⟩,h⟩:=dy h
 exact ⟨es,p,rfl,h⟩
@[irreducible] noncomputable def oE (x:Expr) (k:Expr->Expr->Bool):Bool:=(gP x == 9) && k (e1 x) (e2 x)
theorem ij {x:Expr} {k:Expr->Expr->Bool} (h:oE x k = true):∃ y z p,x = .Subscript y z p/\k y z = true:=by
 unfold oE at h
 obtain ⟨⟨y,z,p,rfl⟩,h⟩:=dy h
 exact ⟨y,z,p,rfl,h⟩
@[irreducible] noncomputable def Hx (x:Expr) (k:Option Expr->Option Expr->Option Expr->Bool):Bool:=(gP x == 10) && k (o1 x) (o2 x) (o3 x)
theorem vm {x:Expr} {k:Option Expr->Option Expr->Option Expr->Bool} (h:Hx x k = true):∃ l u s p,x = .Slice l u s p/\k l u s = true:=by
 unfold Hx at h
 obtain ⟨⟨l,u,s,p,rfl⟩,h⟩:=dy h
 exact ⟨l,u,s,p,rfl,h⟩
@[irreducible] noncomputable def qa (x:Expr) (k:Expr->List Expr->List Keyword->Pos->Bool):Bool:=(gP x == 11) && k (e1 x) (ls x) (kws x) (po x)
theorem oF {x:Expr} {k:Expr->List Expr->List Keyword->Pos->Bool} (h:qa x k = true):∃ f as ks p,x = .Call f as ks p/\k f as ks p = true:=by
 unfold qa at h
 obtain ⟨⟨f,as,ks,p,rfl⟩,h⟩:=dy h
 exact ⟨f,as,ks,p,rfl,h⟩
@[irreducible] noncomputable def HD (x:Expr) (k:Expr->Str->Pos->Bool):Bool:=(gP x == 12) && k (e1 x) (st x) (po x)
theorem DM {x:Expr} {k:Expr->Str->Pos->Bool} (h:HD x k = true):∃ y m p,x = .Attribute y m p/\k y m p = true:=by
 unfold HD at h
 obtain ⟨⟨y,m,p,rfl⟩,h⟩:=dy h
 exact ⟨y,m,p,rfl,h⟩
@[irreducible] noncomputable def Hy (x:Expr) (k:Expr->List Comprehension->Scope->Pos->Bool):Bool:=(gP x == 13) && k (e1 x) (gns x) (scp x default) (po x)
theorem vp {x:Expr} {k:Expr->List Comprehension->Scope->Pos->Bool} (h:Hy x k = true):∃ e gs sc p,x = .ListComp e gs sc p/\k e gs sc p = true:=by
 unfold Hy at h
 obtain ⟨⟨e,gs,sc,p,rfl⟩,h⟩:=dy h
 exact ⟨e,gs,sc,p,rfl,h⟩
noncomputable def sls (x:Stmt):List Expr:=match x with
 | .Assign ts _ _=>ts
 | _=>[]
noncomputable def s1 (x:Stmt):Expr:=match x with
 | .Assign _ y _=>y
 | .AugAssign t _ _ _=>t
 | .If t _ _ _=>t
 | .For t _ _ _ _=>t
 | .While t _ _ _=>t
 | .Expr y _=>y
 | _=>.Constant .none 0 ⟨0,0,0,0⟩
noncomputable def s2 (x:Stmt):Expr:=match x with
 | .AugAssign _ _ y _=>y
 | .For _ it _ _ _=>it
 | _=>.Constant .none 0 ⟨0,0,0,0⟩
noncomputable def so (x:Stmt):Option Expr:=match x with
 | .Return y _=>y
 | _=>none
noncomputable def sb (x:Stmt):List Stmt:=match x with
 | .If _ y _ _=>y
 | .For _ _ y _ _=>y
 | .While _ y _ _=>y
 | _=>[]
noncomputable def sc2 (x:Stmt):List Stmt:=match x with
 | .If _ _ z _=>z
 | .For _ _ _ z _=>z
 | .While _ _ z _=>z
 | _=>[]
noncomputable def tW:Stmt->Nat
 | .Assign .. => 0
 | .AugAssign .. => 1
 | .Return .. => 2
 | .If .. => 3
 | .For .. => 4
 | .While .. => 5
 | .Expr .. => 6
 | _=>99
noncomputable def JW (x:Stmt):Nat->Prop
 | 0=>∃ ts y p,x = .Assign ts y p
 | 1=>∃ t o y p,x = .AugAssign t o y p
 | 2=>∃ y p,x = .Return y p
 | 3=>∃ t y z p,x = .If t y z p
 | 4=>∃ t it y z p,x = .For t it y z p
 | 5=>∃ t y z p,x = .While t y z p
 | 6=>∃ y p,x = .Expr y p
 | _=>True
theorem Bb (x:Stmt):JW x (tW x):=by
 cases x<;>first | trivial | exact ⟨_,_,rfl⟩ | exact ⟨_,_,_,rfl⟩ | exact ⟨_,_,_,_,rfl⟩ | exact ⟨_,_,_,_,_,rfl⟩
theorem jE {x:Stmt} {n:Nat} {b:Bool} (h:((tW x == n) && b) = true):JW x n/\b = true:=by
 rw [aa] at h
 exact ⟨eq_of_beq h.1▸Bb x,h.2⟩
@[irreducible] noncomputable def mD (x:Stmt) (k:List Expr->Expr->Bool):Bool:=(tW x == 0) && k (sls x) (s1 x)
theorem iq {x:Stmt} {k:List Expr->Expr->Bool} (h:mD x k = true):∃ ts y p,x = .Assign ts y p/\k ts y = true:=by
 unfold mD at h
 obtain ⟨⟨ts,y,p,rfl⟩,h⟩:=jE h
 exact ⟨ts,y,p,rfl,h⟩
@[irreducible] noncomputable def vn (x:Stmt) (k:Option Expr->Bool):Bool:=(tW x == 2) && k (so x)
theorem rZ {x:Stmt} {k:Option Expr->Bool} (h:vn x k = true):∃ y p,x = .Return y p/\k y = true:=by
 unfold vn at h
 obtain ⟨⟨y,p,rfl⟩,h⟩:=jE h
 exact ⟨y,p,rfl,h⟩
@[irreducible] noncomputable def vw (x:Stmt) (k:Expr->List Stmt->List Stmt->Bool):Bool:=(tW x == 3) && k (s1 x) (sb x) (sc2 x)
theorem sf {x:Stmt} {k:Expr->List Stmt->List Stmt->Bool} (h:vw x k = true):∃ t y z p,x = .If t y z p/\k t y z = true:=by
 unfold vw at h
 obtain ⟨⟨t,y,z,p,rfl⟩,h⟩:=jE h
 exact ⟨t,y,z,p,rfl,h⟩
@[irreducible] noncomputable def vx (x:Stmt) (k:Expr->Expr->List Stmt->List Stmt->Bool):Bool:=(tW x == 4) && k (s1 x) (s2 x) (sb x) (sc2 x)
theorem sg {x:Stmt} {k:Expr->Expr->List Stmt->List Stmt->Bool} (h:vx x k = true):∃ t it y z p,x = .For t it y z p/\k t it y z = true:=by
 unfold vx at h
 obtain ⟨⟨t,it,y,z,p,rfl⟩,h⟩:=jE h
 exact ⟨t,it,y,z,p,rfl,h⟩
@[irreducible] noncomputable def As (x:Stmt) (k:Expr->Bool):Bool:=(tW x == 6) && k (s1 x)
theorem pZ {x:Stmt} {k:Expr->Bool} (h:As x k = true):∃ y p,x = .Expr y p/\k y = true:=by
 unfold As at h
 obtain ⟨⟨y,p,rfl⟩,h⟩:=jE h
 exact ⟨y,p,rfl,h⟩
section
variable {α:Type} {xs:List α}
@[irreducible] noncomputable def on0 (xs:List α) (k:Bool):Bool:=match xs with
 | []=>k
 | _=>false
theorem eW {k:Bool} (h:on0 xs k = true):xs = []/\k = true:=by
 unfold on0 at h
 cases xs<;>first | exact ⟨rfl,h⟩ | cases h
@[irreducible] noncomputable def onS (xs:List α) (k:α->List α->Bool):Bool:=match xs with
 | y::ys=>k y ys
 | _=>false
theorem dc {k:α->List α->Bool} (h:onS xs k = true):∃ y ys,xs = y::ys/\k y ys = true:=by
 unfold onS at h
 cases xs<;>first | exact ⟨_,_,rfl,h⟩ | cases h
@[irreducible] noncomputable def on1 (xs:List α) (k:α->Bool):Bool:=onS xs fun y ys=>on0 ys (k y)
theorem dM {k:α->Bool} (h:on1 xs k = true):∃ y,xs = [y]/\k y = true:=by
 unfold on1 at h
 obtain ⟨y,ys,rfl,h1⟩:=dc h
 obtain ⟨rfl,h2⟩:=eW h1
 exact ⟨y,rfl,h2⟩
@[irreducible] noncomputable def on2 (xs:List α) (k:α->α->Bool):Bool:=onS xs fun y ys=>on1 ys (k y)
theorem kf {k:α->α->Bool} (h:on2 xs k = true):∃ y z,xs = [y,z]/\k y z = true:=by
 unfold on2 at h
 obtain ⟨y,ys,rfl,h1⟩:=dc h
 obtain ⟨z,rfl,h2⟩:=dM h1
 exact ⟨y,z,rfl,h2⟩
end
@[irreducible] noncomputable def onI (v:Const) (k:Int->Bool):Bool:=match v with
 | .int i=>k i
 | _=>false
theorem HA {v:Const} {k:Int->Bool} (h:onI v k = true):∃ i,v = .int i/\k i = true:=by
 unfold onI at h
 cases v<;>first | exact ⟨_,rfl,h⟩ | cases h
@[irreducible] noncomputable def onB (v:Const) (k:Bool->Bool):Bool:=match v with
 | .bool i=>k i
 | _=>false
theorem HC {v:Const} {k:Bool->Bool} (h:onB v k = true):∃ i,v = .bool i/\k i = true:=by
 unfold onB at h
 cases v<;>first | exact ⟨_,rfl,h⟩ | cases h
@[irreducible] noncomputable def onT (v:Const) (k:Str->Bool):Bool:=match v with
 | .str i=>k i
 | _=>false
theorem Hw {v:Const} {k:Str->Bool} (h:onT v k = true):∃ i,v = .str i/\k i = true:=by
 unfold onT at h
 cases v<;>first | exact ⟨_,rfl,h⟩ | cases h
noncomputable def ER:Const->Bool
 | .none=>true
 | _=>false
theorem AY {v:Const} (h:ER v = true):v = .none:=by
 cases v<;>first | rfl | cases h
@[irreducible] noncomputable def nM (x:Expr) (k:Str->List Expr->Bool):Bool:=qa x fun f as ks _=>dw f fun n=>on0 ks (k n as)
theorem eV {x:Expr} {k:Str->List Expr->Bool} (h:nM x k = true):∃ n np as p,x = .Call (.Name n np) as [] p/\k n as = true:=by
 unfold nM at h
 obtain ⟨f,as,ks,p,rfl,h1⟩:=oF h
 obtain ⟨n,np,rfl,h2⟩:=bL h1
 obtain ⟨rfl,h3⟩:=eW h2
 exact ⟨n,np,as,p,rfl,h3⟩
@[irreducible] noncomputable def onM (x:Expr) (k:Expr->Str->List Expr->Bool):Bool:=qa x fun f as ks cp=>HD f fun y m ap=>on0 ks (decide (ap.endLine = cp.line) && k y m as)
theorem Ar {x:Expr} {k:Expr->Str->List Expr->Bool} (h:onM x k = true):∃ y m ap as cp,x = .Call (.Attribute y m ap) as [] cp/\ap.endLine = cp.line/\k y m as = true:=by
 unfold onM at h
 obtain ⟨f,as,ks,cp,rfl,h1⟩:=oF h
 obtain ⟨y,m,ap,rfl,h2⟩:=DM h1
 obtain ⟨rfl,h3⟩:=eW h2
 rw [aa] at h3
 exact ⟨y,m,ap,as,cp,rfl,of_decide_eq_true h3.1,h3.2⟩
@[irreducible] noncomputable def onG (g:Comprehension) (k:Expr->Expr->List Expr->Bool):Bool:=decide (g.is_async = 0) && k g.target g.iter g.ifs
theorem HB {g:Comprehension} {k:Expr->Expr->List Expr->Bool} (h:onG g k = true):∃ t it il,g = ⟨t,it,il,0⟩/\k t it il = true:=by
 obtain ⟨t,it,il,a⟩:=g
 unfold onG at h
 rw [aa] at h
 have e:a = 0:=of_decide_eq_true h.1
 subst e
 exact ⟨t,it,il,rfl,h.2⟩
noncomputable def Cw:Expr->Option (List Str)
 | .Name x _=>some [x]
 | .Tuple es _ _=>es.mapM fun | .Name x _=>some x | _=>none
 | _=>none
noncomputable def En (c:Ck):List Nat->List Expr->Bool
 | [],es=>on0 es true
 | i::is,es=>onS es fun e r=>dw e (fun x=>eX c i x) && En c is r
noncomputable def uA (c:Ck):Tg->Expr->Bool
 | .nm i,x=>dw x fun y=>eX c i y
 | .tp is,x=>kD x fun es=>En c is es
 | .pr i is,x=>kD x fun es=>on2 es fun a b=>dw a (fun y=>eX c i y) && kD b fun es=>En c is es
noncomputable def xh (n:Nat):Tg->Bool
 | .nm i=>decide (n<=i)
 | .tp is=>is.all fun i=>decide (n<=i)
 | .pr i is=>decide (n<=i) && is.all fun i=>decide (n<=i)
noncomputable def oJ (ts:List Str) (N:List Str):List Str:=N.map fun y=>if ts.contains y then y++(" ":Str) else y
noncomputable def jw (c:Ck) (sc:Scope):Bool :=
 decide (sc.kind = .function) && sc.names.all fun p=>decide (p.2≠.cell) && (!decide (p.2 = .local) || decide (sc.names.lookup p.1 = some .local)) &&
  (!decide (p.2 = .free) || (match c.sc.names.lookup p.1 with | some .cell=>true | some .free=>true | _=>false))
noncomputable def namesOk (c:Ck) (sc:Scope) (Nc:List Str):Bool :=
 decide Nc.Nodup && (List.range c.N.length).all fun i=>match Nc[i]? with
  | some x=>!xa sc x || (decide (c.N[i]? = some x) && decide (sc.names.lookup x = some .free))
  | none=>false
noncomputable def EO:PySem.UnaryOp->Bool
 | .Not=>true
 | _=>false
noncomputable def isNeg:PySem.UnaryOp->Bool
 | .USub=>true
 | _=>false
theorem sA {o:PySem.UnaryOp} (h:EO o = true):o = .Not:=by cases o<;>first | rfl | cases h
theorem AZ {o:PySem.UnaryOp} (h:isNeg o = true):o = .USub:=by cases o<;>first | rfl | cases h
@[irreducible] noncomputable def onO (x:Option Expr) (k:Expr->Bool):Bool:=match x with
 | some y=>k y
 | none=>false
theorem Aq {x:Option Expr} {k:Expr->Bool} (h:onO x k = true):∃ y,x = some y/\k y = true:=by
 unfold onO at h
 cases x with
 | none=>cases h
 | some y=>exact ⟨y,rfl,h⟩
noncomputable def dW:Expr->Bool
 | .Name .. | .Constant .. | .BinOp .. | .Compare .. | .BoolOp .. | .UnaryOp .. | .IfExp .. | .Tuple .. | .List .. | .Subscript .. | .Call .. | .ListComp .. => true
 | .JoinedStr .. => true
 | _=>false
variable [Tbs]
mutual
noncomputable def ckE (c:Ck):E->Expr->Bool
 | .var i,x=>dw x fun y=>gk c i y
 | .pk i,x=>dw x fun y=>gk c i y
 | .glob g,x=>dw x fun y=>decide (c.gn[g]? = some y) && eC c y
 | .int i,x=>onC x fun v=>onI v fun j=>decide (i = j)
 | .bl b,x=>onC x fun v=>onB v fun j=>decide (b = j)
 | .non,x=>onC x ER
 | .str t,x=>onC x fun v=>onT v fun u=>decide (t = u)
 | .bin op a b,x=>Ax x fun y o z=>JG op o && ckE c a y && ckE c b z && (!bG a || np b)
 | .cmp op a b,x=>Av x fun y os zs=>on1 os fun o=>on1 zs fun z=>vX op o && ckE c a y && ckE c b z && (!bG a || np b)
 | .and a b,x=>Aw x fun o vs p=>onS vs fun y r=>onS r fun z r2=>(match o with
   | .And=>true
   | .Or=>false) && ckE c a y && ckE c b (match r2 with
   | []=>z
   | _::_=>.BoolOp .And (z::r2) p) && !bG a && !bG b
 | .or a b,x=>Aw x fun o vs p=>onS vs fun y r=>onS r fun z r2=>(match o with
   | .And=>false
   | .Or=>true) && ckE c a y && ckE c b (match r2 with
   | []=>z
   | _::_=>.BoolOp .Or (z::r2) p) && !bG a && !bG b
 | .not a,x=>Ap x fun o y=>EO o && ckE c a y && !bG a
 | .neg a,x=>Ap x fun o y=>isNeg o && ckE c a y && !bG a
 | .ssd a,x=>nM x fun f as=>on1 as fun w=>nM w fun g as=>on1 as fun y=>decide (f = ("sorted":Str)) && decide (g = ("set":Str)) && eC c f && eC c g && ckE c a y && !bG a
 | .ite k a b,x=>Hz x fun t y z=>ckE c k t && ckE c a y && ckE c b z && !bG a && !bG b
 | .tup es,x=>kD x fun xs=>gI c es xs && ir es
 | .lst es,x=>se x fun xs=>gI c es xs && ir es
 | .ix a b,x=>oE x fun y z=>ckE c a y && ckE c b z && (!bG a || np b) && !bG b
 | .sl a lo hi,x=>oE x fun y z=>Hx z fun l h s=>s.isNone && (ckE c a y && ckO c lo l && ckO c hi h && (!bG a || (npO lo && npO hi)))
 | .call f es,x=>nM x fun n xs=>(match c.fns[f]? with
    | some (m,ps)=>decide (m = n) && eC c n && decide (ps.length = Bm es) && gI c es xs && ir es && !xs.isEmpty
    | none=>false)
 | .blt f es,x=>nM x fun n xs=>decide (oW f = n) && eC c n && (match tyName f with
    | some T=>on2 xs fun y w=>dw w fun t=>decide (t = (T:Str)) && eC c t && gI c es [y] && nN es
    | none=>!xs.isEmpty && gI c es xs && nN es)
 | .bad,x=>dW x
 | .comp k tg src ifs elt,x=>Hy x fun ex gs sc _=>on1 gs fun g=>onG g fun t it il=>(match Cw t with
    | some ts=>decide (ts.length = k) && xh c.N.length tg && jw c sc && namesOk c sc (oJ ts c.N++ts) && uA ⟨oJ ts c.N++ts,sc,c.fns,c.gn⟩ tg t && ckI c src it &&
       ckG ⟨oJ ts c.N++ts,sc,c.fns,c.gn⟩ ifs il && ckE ⟨oJ ts c.N++ts,sc,c.fns,c.gn⟩ elt ex && !bG elt
    | none=>false)
noncomputable def gI (c:Ck):Es->List Expr->Bool
 | .nil,xs=>on0 xs true
 | .cons e es,xs=>onS xs fun y ys=>ckE c e y && gI c es ys
noncomputable def ckO (c:Ck):Eo->Option Expr->Bool
 | .no,x=>x.isNone
 | .yes e,x=>onO x fun y=>ckE c e y && !bG e
noncomputable def ckG (c:Ck):Eo->List Expr->Bool
 | .no,x=>on0 x true
 | .yes e,x=>on1 x fun y=>ckE c e y
noncomputable def ckI (c:Ck):It->Expr->Bool
 | .rng e,x=>nM x fun n xs=>on1 xs fun y=>decide (n = ("range":Str)) && eC c n && ckE c e y && !bG e
 | .rng2 a b,x=>nM x fun n xs=>on2 xs fun y z=>decide (n = ("range":Str)) && eC c n && ckE c a y && ckE c b z && !bG a && !bG b
 | .sq e,x=>ckE c e x && !bG e
end
theorem gH {c:Ck} {es:Es} {y:Expr} {ys:List Expr} (h:gI c es (y::ys) = true):∃ e es',es = .cons e es'/\ckE c e y = true/\gI c es' ys = true:=by
 cases es with
 | nil=>cases (eW h).1
 | cons e es =>
   obtain ⟨_,_,q,h'⟩:=dc h
   cases q
   rw [aa] at h'
   exact ⟨e,es,rfl,h'⟩
theorem qV {c:Ck} {tg:Tg} {t:Expr} (h:uA c tg t = true):(∃ x p,t = .Name x p)\/∃ es n p,t = .Tuple es n p:=by
 cases tg with
 | nm i=>obtain ⟨x,p,rfl,_⟩:=bL h;exact .inl ⟨x,p,rfl⟩
 | tp is=>obtain ⟨es,n,p,rfl,_⟩:=eU h;exact .inr ⟨es,n,p,rfl⟩
 | pr i is=>obtain ⟨es,n,p,rfl,_⟩:=eU h;exact .inr ⟨es,n,p,rfl⟩
theorem hdN {x:Expr} {k:Str->Bool} (h:dw x k = true):dW x = true:=by obtain ⟨_,_,rfl,_⟩:=bL h;rfl
theorem hdC {x:Expr} {k:Const->Bool} (h:onC x k = true):dW x = true:=by obtain ⟨_,_,_,rfl,_⟩:=mB h;rfl
theorem hdF {x:Expr} {k:Str->List Expr->Bool} (h:nM x k = true):dW x = true:=by obtain ⟨_,_,_,_,rfl,_⟩:=eV h;rfl
theorem hdB {x:Expr} {k:PySem.BoolOp->List Expr->Pos->Bool} (h:Aw x k = true):dW x = true:=by obtain ⟨_,_,_,rfl,_⟩:=jC h;rfl
theorem hdU {x:Expr} {k:PySem.UnaryOp->Expr->Bool} (h:Ap x k = true):dW x = true:=by obtain ⟨_,_,_,rfl,_⟩:=ly h;rfl
theorem hdS {x:Expr} {k:Expr->Expr->Bool} (h:oE x k = true):dW x = true:=by obtain ⟨_,_,_,rfl,_⟩:=ij h;rfl
theorem bZ {c:Ck} {e:E} {x:Expr} (h:ckE c e x = true):dW x = true:=by
 cases e with
 | var i=>exact hdN h
 | pk i=>exact hdN h
 | glob g=>exact hdN h
 | int i=>exact hdC h
 | bl b=>exact hdC h
 | non=>exact hdC h
 | str t=>exact hdC h
 | bin op a b=>obtain ⟨_,_,_,_,rfl,_⟩:=sh h;rfl
 | cmp op a b=>obtain ⟨_,_,_,_,rfl,_⟩:=mz h;rfl
 | and a b=>exact hdB h
 | or a b=>exact hdB h
 | not a=>exact hdU h
 | neg a=>exact hdU h
 | ssd a=>exact hdF h
 | ite k a b=>obtain ⟨_,_,_,_,rfl,_⟩:=vt h;rfl
 | tup es=>obtain ⟨_,_,_,rfl,_⟩:=eU h;rfl
 | lst es=>obtain ⟨_,_,rfl,_⟩:=ik h;rfl
 | ix a b=>exact hdS h
 | sl a lo hi=>exact hdS h
 | call f es=>exact hdF h
 | blt f es=>exact hdF h
 | bad=>exact h
 | comp k tg src ifs elt=>obtain ⟨_,_,_,_,rfl,_⟩:=vp h;rfl
theorem cJ {x:Expr} (h:dW x = true) (xs:List Expr) (env:Env):starEach (x::xs) env = (false,eval x env)::starEach xs env:=by
 cases x<;>first | rfl | (exact absurd h ai)
theorem Be {x:Expr} (h:dW x = true) (env:Env) (v:Value):foldedSetIterable x env v = pure v:=by
 cases x<;>first | rfl | (exact absurd h ai)
theorem oP {x:Expr} (h:dW x = true) (op:CmpOp):behindInMarks op x = false:=by
 cases x<;>first | rfl | (exact absurd h ai)
theorem vN {x:Expr} (h:dW x = true):L2.PlainIx x:=by
 intro o i
 cases x<;>first | rfl | (exact absurd h ai)
noncomputable def fj:Expr->Bool
 | .ListComp .. => true
 | _=>false
theorem gX {x:Expr} (h:dW x = true) (hc:fj x = false) (t:Option Expr) (n:Nat) (env:Env):swapsWith x t n env = pure false:=by
 cases x<;>first | rfl | (exact absurd h ai) | (exact absurd hc.symm ai)
@[irreducible] noncomputable def DL (x:Expr) (k:Str->Pos->Bool):Bool:=(gP x == 0) && k (st x) (po x)
theorem vo {x:Expr} {k:Str->Pos->Bool} (h:DL x k = true):∃ y p,x = .Name y p/\k y p = true:=by
 unfold DL at h
 obtain ⟨⟨y,p,rfl⟩,h⟩:=dy h
 exact ⟨y,p,rfl,h⟩
noncomputable def DV (x:Stmt) (n:Nat):Bool:=match x with
 | .Pass _=>n == 0
 | .Break _=>n == 1
 | .Continue _=>n == 2
 | _=>false
theorem qg {x:Stmt} {n:Nat} (h:DV x n = true):∃ p,(n = 0/\x = .Pass p)\/(n = 1/\x = .Break p)\/(n = 2/\x = .Continue p):=by
 cases x<;>first | (cases h;done) | skip
 . exact ⟨_,.inl ⟨eq_of_beq h,rfl⟩⟩
 . exact ⟨_,.inr (.inl ⟨eq_of_beq h,rfl⟩)⟩
 . exact ⟨_,.inr (.inr ⟨eq_of_beq h,rfl⟩)⟩
noncomputable def newOk:E->Bool
 | .lst _=>true
 | .blt .toLst _=>true
 | .sl _ _ _=>true
 | _=>false
noncomputable def isNm (x:Expr):Bool:=gP x == 0
noncomputable def JS (x:Expr):Bool:=gP x == 7
noncomputable def JB (c:Ck) (i j:Nat) (es:Es) (t y:Expr):Bool:=kD t fun us=>on2 us fun u v=>DL u fun x px=>DL v fun z pz=>kD y fun vs=>on2 vs fun a b =>
 decide (c.N[i]? = some x) && decide (c.N[j]? = some z) && decide (c.sc.names.lookup x = some .local) && decide (c.sc.names.lookup z = some .local) && decide (x≠z) && decide (px.line = pz.line) && gI c es [a,b] && ir es && !(foldedForSure 8 a && foldedForSure 8 b) && !(constantsAlone 8 a && constantsAlone 8 b)
noncomputable def EH (c:Ck) (tg:Tg) (e:E) (t y:Expr):Bool:=match tg,e with
 | .tp [i,j],.tup es=>JB c i j es t y
 | _,_=>false
mutual
noncomputable def ckS (c:Ck):S->Stmt->Bool
 | .asg tg e,x=>mD x fun ts y=>on1 ts fun t=>uA c tg t && ckE c e y && !bG e && !fj y && (isNm t || !JS y || EH c tg e t y)
 | .new i e,x=>mD x fun ts y=>on1 ts fun t=>dw t fun t=>eX c i t && ckE c e y && !fj y && newOk e
 | .ret e,x=>vn x fun y=>onO y fun y=>ckE c e y && !bG e
 | .retN,x=>vn x fun y=>y.isNone
 | .ifs k a b,x=>vw x fun t y z=>ckE c k t && dX c a y && dX c b z
 | .for_ tg src body,x=>vx x fun t it y z=>on0 z (uA c tg t && ckI c src it && dX c body y)
 | .append i e,x=>As x fun w=>onM w fun y m as=>dw y fun y=>on1 as fun z=>decide (m = ("append":Str)) && gk c i y && ckE c e z && !bG e
 | .opq _,_=>false
 | .bad,_=>true
 | .pass,x=>DV x 0
 | .brk,x=>DV x 1
 | .cont,x=>DV x 2
noncomputable def dX (c:Ck):Ss->List Stmt->Bool
 | .nil,xs=>on0 xs true
 | .cons s ss,xs=>onS xs fun y ys=>ckS c s y && dX c ss ys
end
end PP
end
section
namespace PP
open PySem L2 PyProof.Rows
variable [Tbs]
noncomputable def Kq (K:PySem.W.Frag) (G:Gh) (F:Addr->Prop) (σ:L2.St) (H:Hp) (m nP:Bool) (d:D) (δ':Loc) (Q:VK):Prop :=
 ∀ v H' F',Step G F H F' H'->(nP = true->Sim H H')->Ok K G F' σ H' δ'->RelM m K H' F' d v->Q v H'
noncomputable def tE (K:PySem.W.Frag) (cx:Cl) (e:E):TE:=fun σ H Q=>∃ G F δ d δ',Ok K G F σ H δ/\evE cx e δ = some (d,δ')/\Kq K G F σ H (bG e) (np e) d δ' Q
noncomputable def tT (K:PySem.W.Frag) (cx:Cl) (e:E):TT:=fun σ H Q=>∃ G F δ b δ',Ok K G F σ H δ/\evT cx e δ = some (b,δ') /\
 ∀ H' F',Step G F H F' H'->(np e = true->Sim H H')->Ok K G F' σ H' δ'->Q b H'
noncomputable def kH (K:PySem.W.Frag) (H:Hp) (F:Addr->Prop):Es->List D->List V->Prop
 | .nil,ds,vs=>ds = []/\vs = []
 | .cons e es,ds,vs=>∃ d ds' v vs',ds = d::ds'/\vs = v::vs'/\RelM (bG e) K H F d v/\kH K H F es ds' vs'
noncomputable def tEs (K:PySem.W.Frag) (cx:Cl) (es:Es):TA:=fun σ H Q=>∃ G F δ ds δ',Ok K G F σ H δ/\gY cx es δ = some (ds,δ') /\
 ∀ vs H' F',Step G F H F' H'->(npS es = true->Sim H H')->Ok K G F' σ H' δ'->kH K H' F' es ds vs->Q vs H'
noncomputable def tO (K:PySem.W.Frag) (cx:Cl) (o:Eo):TO:=fun σ H Q=>∃ G F δ d δ',Ok K G F σ H δ/\evO cx o δ = some (d,δ') /\
 ∀ H' F',Step G F H F' H'->(npO o = true->Sim H H')->Ok K G F' σ H' δ'->Q d H'
noncomputable def tG (K:PySem.W.Frag) (cx:Cl) (o:Eo):TT:=fun σ H Q=>∃ G F δ b δ',Ok K G F σ H δ/\evG cx o δ = some (b,δ') /\
 ∀ H' F',Step G F H F' H'->(npO o = true->Sim H H')->Ok K G F' σ H' δ'->Q b H'
noncomputable def Wk (K:PySem.W.Frag) (G:Gh) (F:Addr->Prop) (H:Hp) (J:L2.It) (ds:List D):Prop:=∀ F2 H2,Step G F H F2 H2->FD F2 H2->∀ i:Nat,
 (∀ d,ds[i]? = some d->J.go i H2/\∀ x H3,J.yld i H2 x H3->H3 = H2/\Rel K H2 F2 d x)/\(i = ds.length->J.stop i H2)
noncomputable def tI (K:PySem.W.Frag) (cx:Cl) (t:It):TI:=fun σ H R=>∃ G F δ ds δ',Ok K G F σ H δ/\evI cx t δ = some (ds,δ') /\
 ∀ J H' F',Step G F H F' H'->(npI t = true->Sim H H')->Ok K G F' σ H' δ'->(∀ G',Wk K G' F' H' J ds)->R J H'
section
variable {K:PySem.W.Frag} {cx:Cl} {X:Cx}
theorem PE.imp {e:Expr} {t t':TE} (h:PE X e t) (w:∀ σ H Q,t' σ H Q->t σ H Q):PE X e t':=fun pins s σ H Q I q=>h pins s σ H Q I (w σ H Q q)
theorem PT.imp {e:Expr} {t t':TT} (h:PT X e t) (w:∀ σ H Q,t' σ H Q->t σ H Q):PT X e t':=fun pins s σ H Q I q=>h pins s σ H Q I (w σ H Q q)
theorem two {a b:E} {σ:L2.St} {G:Gh} {H:Hp} {F:Addr->Prop} {δ δ1 δ2:Loc} {x y:D} (ok:Ok K G F σ H δ) (ea:evE cx a δ = some (x,δ1)) (eb:evE cx b δ1 = some (y,δ2)) (pc:(!bG a || np b) = true) {R:V->V->Hp->Prop}
 (k:∀ v u H2 F2,Step G F H F2 H2->((np a && np b) = true->Sim H H2)->Ok K G F2 σ H2 δ2->RelM (bG a) K H2 F2 x v->RelM (bG b) K H2 F2 y u->R v u H2) :
 tE K cx a σ H fun v H1=>tE K cx b σ H1 fun u H2=>R v u H2:=by
 refine ⟨G,F,δ,x,δ1,ok,ea,fun v H1 F1 st1 sm1 ok1 r1=>⟨G,F1,δ1,y,δ2,ok1,eb,fun u H2 F2 st2 sm2 ok2 r2=>?_⟩⟩
 refine k v u H2 F2 (st1.trans st2) (fun z=>?_) ok2 (RelM.step ok1.fd st2 (fun z=>sm2 (by rw [z] at pc;simpa using pc)) r1) r2
 rw [aa] at z
 exact (sm1 z.1).trans (sm2 z.2)
theorem cU.int {H:Hp} {F:Addr->Prop} {i:Int} {v:V} (h:cU K H F (.int i) v):v = .int i:=by
 rcases h with h | ⟨_,_,_,e,_⟩
 . unfold Rel at h;exact h
 . cases e
theorem cU.bl {H:Hp} {F:Addr->Prop} {i:Bool} {v:V} (h:cU K H F (.bl i) v):v = .bl i:=by
 rcases h with h | ⟨_,_,_,e,_⟩
 . unfold Rel at h;exact h
 . cases e
theorem cU.str {H:Hp} {F:Addr->Prop} {i:Str} {v:V} (h:cU K H F (.str i) v):v = .str i:=by
 rcases h with h | ⟨_,_,_,e,_⟩
 . unfold Rel at h;exact h
 . cases e
theorem cU.tup {H:Hp} {F:Addr->Prop} {ds:List D} {v:V} (h:cU K H F (.tup ds) v):∃ a xs,v = .ref a/\SqT K H a xs/\aA K H F ds xs:=by
 rcases h with h | ⟨_,_,_,e,_⟩
 . unfold Rel at h;exact h
 . cases e
theorem cU.lst {H:Hp} {F:Addr->Prop} {ds:List D} {v:V} (h:cU K H F (.lst ds) v):∃ a xs,v = .ref a/\LsB K H a xs/\aA K H F ds xs:=by
 rcases h with h | ⟨a,xs,_,e,e2,h1,h2⟩
 . unfold Rel at h;obtain ⟨a,xs,e,h1,h2⟩:=h;exact ⟨a,xs,e,h1.b,h2⟩
 . cases e;exact ⟨a,xs,e2,.inl (.inl h1),h2⟩
theorem cE {H:Hp} {F:Addr->Prop} (i:Int):Rel K H F (.int i) (.int i):=by unfold Rel;rfl
theorem jd {H:Hp} {F:Addr->Prop} (i:Bool):Rel K H F (.bl i) (.bl i):=by unfold Rel;rfl
theorem cu {H:Hp} {F:Addr->Prop} (i:Str):Rel K H F (.str i) (.str i):=by unfold Rel;rfl
theorem pU {H:Hp} {F:Addr->Prop}:Rel K H F .non .non:=by unfold Rel;rfl
theorem Ok.laid {σ:L2.St} {G:Gh} {H:Hp} {F:Addr->Prop} {δ:Loc} {p:Addr} (ok:Ok K G F σ H δ) (hp:H p = none) (o:HO):Ok K G F σ (upd H p o) δ/\Step G F H F (upd H p o)/\Sim H (upd H p o)/\¬ F p :=
 ⟨ok.same' (cj hp o),Step.of_same (cj hp o),.of (cj hp o),ok.fd.none hp⟩
theorem jb {σ:L2.St} {G:Gh} {H:Hp} {F:Addr->Prop} {δ:Loc} {p:Addr} {ds:List D} {xs:List V} (ok:Ok K G F σ H δ) (hp:H p = none) (r:aA K H F ds xs):Rel K (upd H p (.tup xs)) F (.tup ds) (.ref p):=by
 unfold Rel
 exact ⟨p,xs,rfl,SqT.of bt,aA.step (G:=G) ok.fd (Step.of_same (cj hp _)) ds xs r⟩
theorem jc {σ:L2.St} {G:Gh} {H:Hp} {F:Addr->Prop} {δ:Loc} {p:Addr} {ds:List D} {xs:List V} (ok:Ok K G F σ H δ) (hp:H p = none) (r:aA K H F ds xs):Rel K (upd H p (.lst xs)) F (.lst ds) (.ref p):=by
 unfold Rel
 exact ⟨p,xs,rfl,.inl ⟨.inl bt,(ok.laid hp (.lst xs)).2.2.2⟩,aA.step (G:=G) ok.fd (Step.of_same (cj hp _)) ds xs r⟩
theorem CS {a b:E} {y z:Expr} {op:Op} {o:Operator} {pos:Pos} (ho:JG op o = true) (pc:(!bG a || np b) = true) (ha:PE X y (tE X.K cx a)) (hb:PE X z (tE X.K cx b)):PE X (.BinOp y o z pos) (tE X.K cx (.bin op a b)):=by
 intro pins s σ H Q I h
 obtain ⟨G,F,δ,d,δ',ok,ev,post⟩:=h
 simp only [evE,ao,af] at ev
 obtain ⟨⟨x,δ1⟩,ea,⟨y',δ2⟩,eb,d',hd,e⟩:=ev
 cases e
 dsimp only at eb hd post
 have fin:∀ v H2 F2,Step G F H F2 H2->((np a && np b) = true->Sim H H2)->Ok X.K G F2 σ H2 δ2->Rel X.K H2 F2 d v->Q v H2:=fun v H2 F2 st sm ok2 r=>post v H2 F2 st sm ok2 r
 cases op<;>cases o<;>first | (exact absurd ho ai) | skip
 . refine oC (Hv.or (uh.or (DI.or (DK.or DJ)))) ha hb pins s σ H Q I (two ok ea eb pc fun v u H2 F2 st sm ok2 r1 r2=>?_)
   change IG x y' = some d at hd
   unfold IG at hd
   split at hd
   . cases hd
     have e1:=r1.b.int;have e2:=r2.b.int;subst e1;subst e2
     exact .inl ⟨_,_,rfl,rfl,fin _ _ _ st sm ok2 (cE _)⟩
   . split at hd
     . cases hd
       have e1:=r1.b.str;have e2:=r2.b.str;subst e1;subst e2
       exact .inr (.inl ⟨_,_,rfl,rfl,‹_›,fin _ _ _ st sm ok2 (cu _)⟩)
     . cases hd
   . cases hd
     obtain ⟨p1,xs1,e1,s1,l1⟩:=r1.b.tup
     obtain ⟨p2,xs2,e2,s2,l2⟩:=r2.b.tup
     subst e1;subst e2
     unfold aA at l1
     subst l1
     refine .inr (.inr (.inr (.inl ⟨p1,p2,xs2,rfl,rfl,s1,s2,fin _ _ _ st sm ok2 ?_⟩)))
     unfold Rel
     exact ⟨p2,xs2,rfl,s2,l2⟩
   . split at hd
     . rename_i q
       cases hd
       obtain ⟨p1,xs1,e1,s1,l1⟩:=r1.b.tup
       obtain ⟨p2,xs2,e2,s2,l2⟩:=r2.b.tup
       subst e1;subst e2
       refine .inr (.inr (.inl ⟨p1,p2,xs1,xs2,rfl,rfl,s1,s2,fun z=>?_,by rw [l1.length,l2.length];exact q,fun z=>?_,fun _ p hp=>?_⟩))
       . have:=l1.length;rw [z] at this;cases this
       . refine fin _ _ _ st sm ok2 ?_
         have e:∀ {ys:List D},aA X.K H2 F2 ys xs2->ys = []:=fun {ys} r=>by have:=r.length;rw [z] at this;exact du.mp this.symm
         have:=e l2
         subst this
         rw [cP]
         unfold Rel
         exact ⟨p1,xs1,rfl,s1,l1⟩
       . obtain ⟨o1,o2,o3,o4⟩:=ok2.laid hp (.tup (xs1++xs2))
         exact fin _ _ _ (st.trans o2) (fun z=>(sm z).trans o3) o1 (jb ok2 hp (l1.append l2))
     . cases hd
   . split at hd
     . rename_i q
       cases hd
       obtain ⟨p1,xs1,e1,s1,l1⟩:=r1.b.lst
       obtain ⟨p2,xs2,e2,s2,l2⟩:=r2.b.lst
       subst e1;subst e2
       refine .inr (.inr (.inr (.inr ⟨p1,p2,xs1,xs2,rfl,rfl,s1,s2,by rw [l1.length,l2.length];exact q,fun p hp=>?_⟩)))
       obtain ⟨o1,o2,o3,o4⟩:=ok2.laid hp (.lst (xs1++xs2))
       exact fin _ _ _ (st.trans o2) (fun z=>(sm z).trans o3) o1 (jc ok2 hp (l1.append l2))
     . cases hd
   . cases hd
 . refine oC Hm ha hb pins s σ H Q I (two ok ea eb pc fun v u H2 F2 st sm ok2 r1 r2=>?_)
   change Gg x y' = some d at hd
   unfold Gg at hd
   split at hd<;>first | (cases hd;done) | skip
   cases hd
   have e1:=r1.b.int;have e2:=r2.b.int;subst e1;subst e2
   exact ⟨_,_,rfl,rfl,fin _ _ _ st sm ok2 (cE _)⟩
 . refine oC (DH.or DG) ha hb pins s σ H Q I (two ok ea eb pc fun v u H2 F2 st sm ok2 r1 r2=>?_)
   change HG x y' = some d at hd
   unfold HG at hd
   split at hd<;>first | (cases hd;done) | skip
   . split at hd
     . rename_i q
       cases hd
       have e1:=r1.b.int;have e2:=r2.b.int;subst e1;subst e2
       refine .inl ⟨_,_,rfl,rfl,?_,fin _ _ _ st sm ok2 (cE _)⟩
       exact DO q
     . cases hd
   . split at hd
     . rename_i q
       cases hd
       have e1:=r1.b.str;have e2:=r2.b.int;subst e1;subst e2
       exact .inr ⟨_,_,rfl,rfl,q,fin _ _ _ st sm ok2 (cu _)⟩
     . cases hd
 . refine oC Hq ha hb pins s σ H Q I (two ok ea eb pc fun v u H2 F2 st sm ok2 r1 r2=>?_)
   change HH x y' = some d at hd
   unfold HH at hd
   split at hd<;>first | (cases hd;done) | skip
   split at hd
   . rename_i q
     cases hd
     have e1:=r1.b.int;have e2:=r2.b.int;subst e1;subst e2
     exact ⟨_,_,rfl,rfl,q,fin _ _ _ st sm ok2 (cE _)⟩
   . cases hd
 . refine oC Ao ha hb pins s σ H Q I (two ok ea eb pc fun v u H2 F2 st sm ok2 r1 r2=>?_)
   change Bk x y' = some d at hd
   unfold Bk at hd
   split at hd<;>first | (cases hd;done) | skip
   split at hd
   . rename_i q
     cases hd
     have e1:=r1.b.int;have e2:=r2.b.int;subst e1;subst e2
     exact ⟨_,_,rfl,rfl,q,fin _ _ _ st sm ok2 (cE _)⟩
   . cases hd
 . refine oC Hn ha hb pins s σ H Q I (two ok ea eb pc fun v u H2 F2 st sm ok2 r1 r2=>?_)
   change GZ x y' = some d at hd
   unfold GZ at hd
   split at hd<;>first | (cases hd;done) | skip
   split at hd
   . rename_i q
     cases hd
     have e1:=r1.b.int;have e2:=r2.b.int;subst e1;subst e2
     exact ⟨_,_,rfl,rfl,q,fin _ _ _ st sm ok2 (cE _)⟩
   . cases hd
end
end PP
end
section
namespace PP
open PySem L2 PySem.SeqAt PyProof.Rows PySem.W
variable [Tbs]
theorem cQ {ds:List D} (h:sortable ds = true):ds.length < 64/\(∀ x∈ds,bo x≠0/\bo x = bo (ds.getD 0 .non))/\∀ x∈ds,∀ y∈ds,∃ k,iT x y = some k:=by
 unfold sortable at h
 simp only [aa,bD,decide_eq_true_eq] at h
 obtain ⟨⟨h1,h2⟩,h3⟩:=h
 refine ⟨h1,fun x hx=>?_,fun x hx y hy=>eB.mp (h3 x hx y hy)⟩
 have:=h2 x hx
 exact ⟨by simpa using this.1,by simpa using this.2⟩
theorem ot (ds:List D):(dQ ds).length = ds.length:=by
 unfold dQ
 by_cases h:ds.length < 2
 . rw [if_pos h]
 . rw [if_neg h,aj,(fh ds.length).length_eq,fc]
theorem nq {K:PySem.W.Frag} {H:Hp} {F:Addr->Prop} {ds:List D} {xs:List V} (r:aA K H F ds xs):∀ (is:List Nat),(∀ i∈is,i < ds.length)->aA K H F (is.map fun i=>ds.getD i .non) (is.map fun i=>xs.getD i .non)
 | [],_=>aA.nil
 | i::is,h=>by
   have hi:=h i ak
   obtain ⟨v,hv,rv⟩:=r.get (i:=i) (d:=ds.getD i .non) (by simp [hi])
   have e:xs.getD i .non = v:=by simp [hv]
   rw [aI,aI,e]
   exact aA.cons rv (nq r is fun j hj=>h j (av _ hj))
theorem nj {xs:List V} {us:List Value} (r:Vals xs us):∀ (is:List Nat),(∀ i∈is,i < xs.length)->Vals (is.map fun i=>xs.getD i .non) (is.map fun i=>us.getD i Value.none)
 | [],_=>.nil
 | i::is,h=>by
   have hi:=h i ak
   obtain ⟨u,hu,ru⟩:=r.get (i:=i) (x:=xs.getD i .non) (by simp [hi])
   have e:us.getD i Value.none = u:=by simp [hu]
   rw [aI,aI,e]
   exact .cons ru (nj r is fun j hj=>h j (av _ hj))
theorem AU {M:Model} {A:Around} {E:Value->Shared->Prop} {s:Shared} {ds:List D} {us:List Value} (r:RdL s.heap ds us) (hk:∀ x∈ds,bo x≠0/\bo x = bo (ds.getD 0 .non)) (h2:2<=us.length) {Q:SortKind->Shared->Prop}
 (q:Q (if bo (ds.getD 0 .non) < 3 then oneType' else tuples' true) s):wpAny M A (keyKind' us.toArray) Q E s:=by
 have hl:=r.length
 have all:∀ v∈us,∃ d∈ds,RdV s.heap d v:=by
  have:∀ (ds:List D) (us:List Value),RdL s.heap ds us->∀ v∈us,∃ d∈ds,RdV s.heap d v:=by
   intro ds
   induction ds with
   | nil=>intro us r v hv;unfold RdL at r;subst r;cases hv
   | cons d ds ih =>
     intro us r v hv
     unfold RdL at r
     obtain ⟨w,ws,rfl,r1,r2⟩:=r
     rcases aQ.mp hv with rfl | hv
     . exact ⟨d,ak,r1⟩
     . obtain ⟨d',h1,h2⟩:=ih ws r2 v hv
       exact ⟨d',av _ h1,h2⟩
  exact this ds us r
 generalize hn:bo (ds.getD 0 .non) = n at hk q
 have tups:∀ (T:Value) (P:D->Prop),(∀ d,P d->∀ u,RdV s.heap d u->Looks M s.heap (typeOf u) T)->(∀ x∈ds,∃ y r,x = .tup (y::r)/\P y)->∃ fs,KatTups s.heap us fs/\fs.length = us.length/\∀ v∈fs,Looks M s.heap (typeOf v) T:=by
  intro T P hP hx
  have:∀ (ds:List D) (us:List Value),RdL s.heap ds us->(∀ x∈ds,∃ y r,x = .tup (y::r)/\P y)->∃ fs,KatTups s.heap us fs/\fs.length = us.length/\∀ v∈fs,Looks M s.heap (typeOf v) T:=by
   intro ds
   induction ds with
   | nil=>intro us r _;unfold RdL at r;subst r;exact ⟨[],KatTups.nil,rfl,fun v hv=>by cases hv⟩
   | cons d ds ih =>
     intro us r hx
     unfold RdL at r
     obtain ⟨w,ws,rfl,r1,r2⟩:=r
     obtain ⟨fs,f1,f2,f3⟩:=ih ws r2 fun x h=>hx x (av _ h)
     obtain ⟨y,rr,rfl,py⟩:=hx d ak
     unfold RdV at r1
     obtain ⟨a,its,rfl,⟨o,h1,hc,m,hd⟩,h3⟩:=r1
     unfold RdL at h3
     obtain ⟨f,fr,e,g1,g2⟩:=h3
     refine ⟨f::fs,KatTups.cons h1 hc hd ?_ f1,by simp [f2],fun v hv=>?_⟩
     . have:its.toList[0]? = some f:=by rw [e];rfl
       simpa using this
     . rcases aQ.mp hv with rfl | hv
       . exact hP y py _ g1
       . exact f3 v hv
  exact this ds us r hx
 match n,hk,q with
 | 0,hk,q =>
   obtain ⟨x,hx⟩:∃ x,x∈ds:=by
    cases ds with
    | nil=>rw [hl] at h2;simp at h2
    | cons x r=>exact ⟨x,ak⟩
   exact absurd (hk x hx).2 (hk x hx).1
 | 1,hk,q =>
   refine kas_kind (T:=.type "str") h2 (fun v hv=>?_) (by decide) (by decide) q
   obtain ⟨d,hd,rd⟩:=all v hv
   have:=(hk d hd).2
   cases d<;>first | (simp [bo] at this;done) | skip
   . unfold RdV at rd
     obtain ⟨t,rfl⟩:=rd
     exact jn rfl
   . rename_i l;cases l with
     | nil=>simp [bo] at this
     | cons x r=>cases x<;>simp [bo] at this
 | 2,hk,q =>
   refine kas_kind (T:=.type "int") h2 (fun v hv=>?_) (by decide) (by decide) q
   obtain ⟨d,hd,rd⟩:=all v hv
   have:=(hk d hd).2
   cases d<;>first | (simp [bo] at this;done) | skip
   . unfold RdV at rd
     obtain ⟨t,rfl⟩:=rd
     exact jn rfl
   . rename_i l;cases l with
     | nil=>simp [bo] at this
     | cons x r=>cases x<;>simp [bo] at this
 | 3,hk,q =>
   obtain ⟨fs,f1,f2,f3⟩:=tups (.type "str") (fun y=>∃ x,y = .str x) (fun d ⟨x,e⟩ u rd=>by subst e;unfold RdV at rd;obtain ⟨t,rfl⟩:=rd;exact jn rfl) fun x hx=>by
    have:=(hk x hx).2
    cases x<;>first | (simp [bo] at this;done) | skip
    rename_i l;cases l with
    | nil=>simp [bo] at this
    | cons x r=>cases x<;>first | (simp [bo] at this;done) | exact ⟨_,_,rfl,_,rfl⟩
   exact kat_kind f1 (by omega) f3 (by decide) q
 | 4,hk,q =>
   obtain ⟨fs,f1,f2,f3⟩:=tups (.type "int") (fun y=>∃ x,y = .int x) (fun d ⟨x,e⟩ u rd=>by subst e;unfold RdV at rd;obtain ⟨t,rfl⟩:=rd;exact jn rfl) fun x hx=>by
    have:=(hk x hx).2
    cases x<;>first | (simp [bo] at this;done) | skip
    rename_i l;cases l with
    | nil=>simp [bo] at this
    | cons x r=>cases x<;>first | (simp [bo] at this;done) | exact ⟨_,_,rfl,_,rfl⟩
   exact kat_kind f1 (by omega) f3 (by decide) q
 | m+5,hk,q =>
   obtain ⟨x,hx⟩:∃ x,x∈ds:=by
    cases ds with
    | nil=>rw [hl] at h2;simp at h2
    | cons x r=>exact ⟨x,ak⟩
   have:=(hk x hx).2
   exfalso
   cases x<;>first | (simp [bo] at this;done) | skip
   rename_i l;cases l with
   | nil=>simp [bo] at this
   | cons x r=>cases x<;>simp [bo] at this
theorem qm:∀ {ds:List D},(∀ x∈ds,dep x < 100000)->bI ds < 100000
 | [],_=>by unfold bI;omega
 | d::ds,h=>by
   have h1:=h d ak
   have h2:=qm fun x hx=>h x (av _ hx)
   unfold bI
   omega
theorem pL {ds:List D} (hs:sortable ds = true):bI ds < 100000:=by
 obtain ⟨_,_,hlt⟩:=cQ hs
 refine qm fun x hx=>?_
 obtain ⟨b,hb⟩:=hlt x hx x hx
 unfold iT at hb
 split at hb
 . omega
 . cases hb
theorem EX {prog:Program} {w:World} {A A':Around} {s:Shared} {h':Heap} {ds:List D} {its:List Value} (hu:A.units+200 < cLine) (hA:A'.units<=A.units+2) (rd:RdL s.heap ds its) (l3:its.length = ds.length) (hs:sortable ds = true)
 (k:∀ b o,s.heap.get? b = some o->h'.get? b = some o) (i j:Nat) (hi:i < its.length) (hj:j < its.length) (C:Bool->Shared->Prop) (c:C (gp ds i j) { s with heap:=h' }) :
 kas_ask prog w A' (if bo (ds.getD 0 .non) < 3 then oneType' else tuples' true) its i j C { s with heap:=h' }:=by
 obtain ⟨h64,hk,hlt⟩:=cQ hs
 have mem:∀ i,i < its.length->ds.getD i .non∈ds:=fun i hi=>by
  have:i < ds.length:=by omega
  rw [dS,ax this]
  exact hV this
 obtain ⟨b,hb⟩:=hlt _ (mem i hi) _ (mem j hj)
 have eb:gp ds i j = b:=by unfold gp;rw [hb];rfl
 rw [eb] at c
 have ri:=RdV.keep k _ _ (RdL.nth i rd (by omega))
 have rj:=RdV.keep k _ _ (RdL.nth j rd (by omega))
 have ki:=hk _ (mem i hi)
 have kj:=hk _ (mem j hj)
 unfold iT at hb
 split at hb
 . rename_i hd
   unfold kas_ask
   generalize ds.getD i .non = x at ri hb hd ki
   generalize ds.getD j .non = y at rj hb hd kj
   generalize its.getD i Value.none = u at ri
   generalize its.getD j Value.none = v at rj
   generalize bo (ds.getD 0 .non) = n0 at ki kj
   by_cases h3:n0 < 3
   . rw [if_pos h3,keyLt'_oneType]
     refine EI (s:={ s with heap:=h' }) ri rj ?_ hb c
     have:=ki.1
     have k1:n0 = 1\/n0 = 2:=by omega
     rcases k1 with k1 | k1
     . exact .inl ⟨by omega,by omega⟩
     . exact .inr ⟨by omega,by omega⟩
   . rw [if_neg h3]
     have tx:∀ z:D,bo z = n0->∃ p r,z = .tup (p::r)/\((n0 = 3/\bo p = 1)\/(n0 = 4/\bo p = 2)):=fun z hz=>by
      cases z<;>first | (simp [bo] at hz;omega) | skip
      rename_i l
      cases l with
      | nil=>simp [bo] at hz;omega
      | cons p r=>cases p<;>first | (simp [bo] at hz;omega) | exact ⟨_,_,rfl,by simp [bo] at hz ⊢;omega⟩
     obtain ⟨p1,r1,rfl,w1⟩:=tx x ki.2
     obtain ⟨p2,r2,rfl,w2⟩:=tx y kj.2
     unfold RdV at ri rj
     obtain ⟨a1,i1,rfl,⟨o1,g1,c1,m1,d1⟩,t1⟩:=ri
     obtain ⟨a2,i2,rfl,⟨o2,g2,c2,m2,d2⟩,t2⟩:=rj
     have z1:i1.size = (p1::r1).length:=by simpa using t1.length
     have z2:i2.size = (p2::r2).length:=by simpa using t2.length
     unfold ltD at hb
     unfold dep at hd
     refine kat_lt (s:={ s with heap:=h' }) g1 d1 g2 d2 (sv (s:={ s with heap:=h' }) (p1::r1) (p2::r2) i1.toList i2.toList 0 t1 t2 (by omega) hb (by rw [z1,z2]) (fun _ x y hx hy=>?_) c)
     cases hx
     cases hy
     rcases w1 with ⟨e,w1⟩ | ⟨e,w1⟩<;>rcases w2 with ⟨e',w2⟩ | ⟨e',w2⟩<;>first | (exact .inl ⟨w1,w2⟩) | (exact .inr ⟨w1,w2⟩) | omega
 . cases hb
theorem qz {X:Cx} (hu:X.A.units+200 < cLine):bT X (.builtin "sorted") (fun xs H Q=>∃ F ds v,xs = [v]/\cU X.K H F (.lst ds) v/\sortable ds = true/\∀ p ys,H p = none->aA X.K H F (dQ ds) ys->Q (.ref p) (upd H p (.lst ys))):=by
 intro pins s σ H xs us Q I r h
 obtain ⟨F,ds,v,rfl,rb,hs,q⟩:=h
 obtain ⟨a,ws,rfl,hl,rl⟩:=rb.lst
 obtain ⟨u,rfl,rx⟩:=vals1 r
 cases rx
 obtain ⟨its,n,rv,ho,hz⟩:=hl.obj I
 obtain ⟨h64,hk,hlt⟩:=cQ hs
 have rd:=jZ I ds ws its rl rv (pL hs)
 have l1:=rl.length
 have l2:=rv.length
 have l3:its.length = ds.length:=by omega
 have isl:s.heap.IsList a its.toArray:=⟨_,ho,rfl,n,rfl⟩
 have out:eE (gp ds) its = (if its.length < 2 then its else (ans (gp ds) (kas_sort its.length)).toList.map fun i=>its.getD i Value.none):=rfl
 have hlen:(eE (gp ds) its).length = its.length:=by
  rw [out]
  by_cases h:its.length < 2
  . rw [if_pos h]
  . rw [if_neg h,aj,(fh its.length).length_eq,fc]
 have small:∀ i∈(ans (gp ds) (kas_sort its.length)).toList,i < its.length:=fun i hi=>by simpa using (fh its.length).mem_iff.mp hi
 -- the values in their new places
 have hv:∃ ys,Vals ys (eE (gp ds) its)/\aA X.K H F (dQ ds) ys:=by
  rw [out]
  unfold dQ
  by_cases h:its.length < 2
  . rw [if_pos h,if_pos (by omega)]
    exact ⟨ws,rv,rl⟩
  . rw [if_neg h,if_neg (by omega),<- l3]
    exact ⟨_,nj rv _ fun i hi=>by rw [l2];exact small i hi,nq rl _ fun i hi=>by rw [<- l3];exact small i hi⟩
 obtain ⟨ys,vy,ry⟩:=hv
 refine xk (lt:=gp ds) (κ:=if bo (ds.getD 0 .non) < 3 then oneType' else tuples' true) isl (by omega) hlen (fun h2 A' h' hA k C c=>?_) (fun A' h' hA k i j hi hj C c=>?_) ?_
 . exact AU (s:={ s with heap:=h' }) (RdL.keep k ds its rd) hk h2 c
 . exact EX hu hA rd l3 hs k i j hi hj C c
 . obtain ⟨e,he⟩:=sortedAll_at s.heap its (eE (gp ds) its).toArray
   refine ⟨.ref (s.heap.objs.size+1),upd H (s.heap.objs.size+1) (.lst ys),I.laid (t':=s.toks) (fun b u hb=>sortedAll_old hb) (nz _) ⟨?_,_,e,vy,he⟩,rfl,q _ _ (I.hok.fresh (nz _)) ry⟩
   rw [ry.length,ot,bM]
   omega
end PP
end
section
namespace PP
open PySem PySem.W PyProof.Rows
section
variable {prog:Program} {w:World} {A:Around} {E:Value->Shared->Prop} {s:Shared}
end
end PP
end
section
namespace PP
open PySem L2 PySem.SeqAt PyProof.Rows PySem.W
variable [Tbs]
end PP
end
section
namespace PP
open PySem L2 PyProof.Rows
variable [Tbs]
section
variable {K:PySem.W.Frag} {cx:Cl} {X:Cx}
theorem fu {H:Hp} {F:Addr->Prop} {d:D} {v:V} (r:Rel K H F d v):RelM false K H F d v:=r
noncomputable def rC (K:PySem.W.Frag) (op:Cop):R2:=fun x y H Q=>∃ F a b k,cU K H F a x/\cU K H F b y/\ux op a b = some k/\Q (.bl k) H
theorem Hk {p:Int->Int->Bool} {a b:D} {k:Bool} (h:Hl p a b = some k):∃ i j,a = .int i/\b = .int j/\k = p i j:=by
 unfold Hl at h
 split at h
 . cases h;exact ⟨_,_,rfl,rfl,rfl⟩
 . cases h
theorem ES {a b:D} {k:Bool} (h:inD a b = some k):(∃ ds,(b = .lst ds\/b = .tup ds)/\(dep a<=150/\bI ds < 99999)/\k = ds.any fun y=>eqD y a)\/∃ x y,a = .str x/\b = .str y/\k = HF y x:=by
 unfold inD at h
 split at h
 . split at h
   . cases h;exact .inl ⟨_,.inl rfl,‹_›,rfl⟩
   . cases h
 . split at h
   . cases h;exact .inl ⟨_,.inr rfl,‹_›,rfl⟩
   . cases h
 . split at h
   . cases h;exact .inr ⟨_,_,rfl,rfl,rfl⟩
   . cases h
 . cases h
theorem jB:OpR X (compareOp .NotIn) (fun x y H Q=>∃ i j,x = .str i/\y = .str j/\Q (.bl (!HF j i)) H):=by
 intro pins s σ H x y v u Q I rx ry h
 obtain ⟨i,j,rfl,rfl,q⟩:=h
 obtain ⟨t,rfl⟩:=rx
 obtain ⟨t',rfl⟩:=ry
 exact PySem.P.notIn_str ⟨.bl _,H,I,rfl,q⟩
theorem OpR.imp {f:Value->Value->Sem Value} {r r':R2} (h:OpR X f r) (w:∀ x y H Q,r' x y H Q->r x y H Q):OpR X f r':=fun pins s σ H x y v u Q I rx ry q=>h pins s σ H x y v u Q I rx ry (w _ _ _ _ q)
theorem JU {H:Hp} {F:Addr->Prop} {a b:D} {k:Bool} {x y:V} (h:isD a b = some k) (ra:cU K H F a x) (rb:cU K H F b y):y = .non/\k = decide (x = .non):=by
 cases b<;>first | (cases h;done) | skip
 cases h
 refine ⟨?_,?_⟩
 . rcases rb with r | ⟨_,_,_,e,_⟩
   . unfold Rel at r;exact r
   . cases e
 . rcases ra with r | ⟨_,_,_,rfl,rfl,_⟩
   . cases a<;>unfold Rel at r<;>first | (subst r;rfl) | (obtain ⟨_,_,rfl,_⟩:=r;rfl) | exact r.elim
   . rfl
theorem JO {a b:D} {k:Bool} (h:leD a b = some k):(∃ i j,a = .int i/\b = .int j/\k = decide (i<=j))\/∃ i j,a = .str i/\b = .str j/\k = !decide (j.cps.toList < i.cps.toList):=by
 unfold leD at h
 split at h
 . cases h;exact .inl ⟨_,_,rfl,rfl,rfl⟩
 . cases h;exact .inr ⟨_,_,rfl,rfl,rfl⟩
 . cases h
theorem xE:OpR X (compareOp .LtE) (fun x y H Q=>∃ i j,x = .str i/\y = .str j/\Q (.bl (!decide (j.cps.toList < i.cps.toList))) H):=by
 intro pins s σ H x y v u Q I rx ry h
 obtain ⟨i,j,rfl,rfl,q⟩:=h
 obtain ⟨t,rfl⟩:=rx
 obtain ⟨t',rfl⟩:=ry
 exact PySem.P.le_str ⟨.bl _,H,I,rfl,q⟩
theorem opC (hu:X.A.units+200 < cLine) {op:Cop} {o:CmpOp} (ho:vX op o = true):OpR X (compareOp o) (rC X.K op):=by
 cases op<;>cases o<;>first | (exact absurd ho ai) | skip
 . exact OpR.imp (Hr hu) fun x y H Q ⟨F,a,b,k,ra,rb,e,q⟩=>⟨F,a,b,k,ra,rb,e,q⟩
 . refine OpR.imp (JD.or xE) fun x y H Q ⟨F,a,b,k,ra,rb,e,q⟩=>?_
   rcases JO e with ⟨i,j,rfl,rfl,rfl⟩ | ⟨i,j,rfl,rfl,rfl⟩
   . exact .inl ⟨i,j,ra.int,rb.int,q⟩
   . exact .inr ⟨i,j,ra.str,rb.str,q⟩
 . refine OpR.imp JE fun x y H Q ⟨F,a,b,k,ra,rb,e,q⟩=>?_
   obtain ⟨i,j,rfl,rfl,rfl⟩:=Hk e
   exact ⟨i,j,ra.int,rb.int,q⟩
 . refine OpR.imp ((Hu hu).or JF) fun x y H Q ⟨F,a,b,k,ra,rb,e,q⟩=>?_
   change (if gc a b = true then some (eqD a b) else if JL a b = true then some false else none) = some k at e
   split at e
   . cases e;exact .inl ⟨F,a,b,ra,rb,‹_›,q⟩
   . split at e
     . rename_i hm
       cases e
       cases a<;>cases b<;>first | (cases hm;done) | skip
       . rw [ra.int,rb.str]
         exact .inr ⟨rfl,q⟩
       . rw [ra.str,rb.int]
         exact .inr ⟨rfl,q⟩
     . cases e
 . refine OpR.imp (Ho hu) fun x y H Q ⟨F,a,b,k,ra,rb,e,q⟩=>?_
   change (if gc a b = true then some (!eqD a b) else none) = some k at e
   split at e
   . cases e;exact ⟨F,a,b,ra,rb,‹_›,q⟩
   . cases e
 . intro pins s σ H x y v u Q I rx ry h
   obtain ⟨F,a,b,k,ra,rb,e,q⟩:=h
   rcases ES e with ⟨ds,hb,hd,rfl⟩ | ⟨x',y',rfl,rfl,rfl⟩
   . refine Ht hu pins s σ H x y v u Q I rx ry ⟨F,a,ds,ra,?_,hd,q⟩
     rcases hb with rfl | rfl
     . exact .inl rb
     . exact .inr rb
   . exact xF pins s σ H x y v u Q I rx ry ⟨x',y',ra.str,rb.str,q⟩
 . intro pins s σ H x y v u Q I rx ry h
   obtain ⟨F,a,b,k,ra,rb,e,q⟩:=h
   change (inD a b).map (!·) = some k at e
   rw [aL] at e
   obtain ⟨k',e,rfl⟩:=e
   rcases ES e with ⟨ds,hb,hd,rfl⟩ | ⟨x',y',rfl,rfl,rfl⟩
   . refine xD hu pins s σ H x y v u Q I rx ry ⟨F,a,ds,ra,?_,hd,q⟩
     rcases hb with rfl | rfl
     . exact .inl rb
     . exact .inr rb
   . exact jB pins s σ H x y v u Q I rx ry ⟨x',y',ra.str,rb.str,q⟩
 . refine OpR.imp Hs fun x y H Q ⟨F,a,b,k,ra,rb,e,q⟩=>?_
   obtain ⟨e1,e2⟩:=JU e ra rb
   exact ⟨e1,e2▸q⟩
theorem Ij {op:Cop} {a b:E} {δ:Loc} {d:D} {δ':Loc} (ev:evE cx (.cmp op a b) δ = some (d,δ')):∃ x δ1 y k,evE cx a δ = some (x,δ1)/\evE cx b δ1 = some (y,δ')/\ux op x y = some k/\d = .bl k:=by
 simp only [evE,ao,af] at ev
 obtain ⟨⟨x,δ1⟩,ea,⟨y',δ2⟩,eb,k,hd,e⟩:=ev
 cases e
 exact ⟨x,δ1,y',k,ea,eb,hd,rfl⟩
theorem Ej {op:Cop} {a b:E} {δ:Loc} {k:Bool} {δ':Loc} (ev:evT cx (.cmp op a b) δ = some (k,δ')):∃ x δ1 y,evE cx a δ = some (x,δ1)/\evE cx b δ1 = some (y,δ')/\ux op x y = some k:=by
 simp only [evT,ao,af] at ev
 obtain ⟨⟨x,δ1⟩,ea,⟨y',δ2⟩,eb,k,hd,e⟩:=ev
 cases e
 exact ⟨x,δ1,y',ea,eb,hd⟩
theorem CQ {a b:E} {y z:Expr} {op:Cop} {o:CmpOp} {pos:Pos} (hu:X.A.units+200 < cLine) (ho:vX op o = true) (pc:(!bG a || np b) = true) (ha:PE X y (tE X.K cx a)) (hb:PE X z (tE X.K cx b)) (hm:behindInMarks o z = false) :
 PE X (.Compare y [o] [z] pos) (tE X.K cx (.cmp op a b)):=by
 refine PE.imp (DB (opC hu ho) ha hb hm) fun σ H Q h=>?_
 obtain ⟨G,F,δ,d,δ',ok,ev,post⟩:=h
 obtain ⟨x,δ1,y',k,ea,eb,hd,rfl⟩:=Ij ev
 exact two ok ea eb pc fun v u H2 F2 st sm ok2 r1 r2=>⟨F2,x,y',k,r1.b,r2.b,hd,post _ H2 F2 st sm ok2 (fu (jd k))⟩
theorem zL {a b:E} {y z:Expr} {op:Cop} {o:CmpOp} {pos:Pos} (hu:X.A.units+200 < cLine) (ho:vX op o = true) (pc:(!bG a || np b) = true) (ha:PE X y (tE X.K cx a)) (hb:PE X z (tE X.K cx b)) (hm:behindInMarks o z = false) :
 PT X (.Compare y [o] [z] pos) (tT X.K cx (.cmp op a b)):=by
 refine PT.imp (Dv (opC hu ho) ha hb hm) fun σ H Q h=>?_
 obtain ⟨G,F,δ,k,δ',ok,ev,post⟩:=h
 obtain ⟨x,δ1,y',ea,eb,hd⟩:=Ej ev
 exact two ok ea eb pc fun v u H2 F2 st sm ok2 r1 r2=>⟨F2,x,y',k,r1.b,r2.b,hd,k,rfl,post H2 F2 st sm ok2⟩
theorem da {e:E} {H:Hp} {F:Addr->Prop} {d:D} {v:V} (n:(!bG e) = true) (h:RelM (bG e) K H F d v):Rel K H F d v:=by
 have e1:bG e = false:=by simpa using n
 rw [e1] at h
 exact h
theorem snd_and {a b:E} {y z:Expr} {r:List Expr} {pos:Pos} (na:(!bG a) = true) (nb:(!bG b) = true) (ha:PE X y (tE X.K cx a)) (hb:PE X (.BoolOp .And (z::r) pos) (tE X.K cx b)):PE X (.BoolOp .And (y::z::r) pos) (tE X.K cx (.and a b)):=by
 refine PE.imp (Hi ha hb) fun σ H Q h=>?_
 obtain ⟨G,F,δ,d,δ',ok,ev,post⟩:=h
 simp only [evE,ao,af] at ev
 obtain ⟨⟨x,δ1⟩,ea,ev⟩:=ev
 refine ⟨G,F,δ,x,δ1,ok,ea,fun v H1 F1 st1 sm1 ok1 r1=>?_⟩
 replace r1:=da na r1
 have np1:np (.and a b) = (np a && np b):=rfl
 cases x with
 | bl k =>
   unfold Rel at r1
   refine ⟨k,r1,?_⟩
   cases k with
   | true =>
     rw [if_pos rfl]
     refine ⟨G,F1,δ1,d,δ',ok1,ev,fun u H2 F2 st2 sm2 ok2 r2=>post u H2 F2 (st1.trans st2) (fun n=>?_) ok2 (fu (da nb r2))⟩
     rw [np1,aa] at n
     exact (sm1 n.1).trans (sm2 n.2)
   | false =>
     rw [if_neg ai]
     cases ev
     exact post _ H1 F1 st1 (fun n=>by rw [np1,aa] at n;exact sm1 n.1) ok1 (fu (jd false))
 | _=>cases ev
theorem zG {a b:E} {y z:Expr} {r:List Expr} {pos:Pos} (na:(!bG a) = true) (nb:(!bG b) = true) (ha:PE X y (tE X.K cx a)) (hb:PE X (.BoolOp .Or (z::r) pos) (tE X.K cx b)):PE X (.BoolOp .Or (y::z::r) pos) (tE X.K cx (.or a b)):=by
 refine PE.imp (Jz ha hb) fun σ H Q h=>?_
 obtain ⟨G,F,δ,d,δ',ok,ev,post⟩:=h
 simp only [evE,ao,af] at ev
 obtain ⟨⟨x,δ1⟩,ea,ev⟩:=ev
 refine ⟨G,F,δ,x,δ1,ok,ea,fun v H1 F1 st1 sm1 ok1 r1=>?_⟩
 replace r1:=da na r1
 have np1:np (.or a b) = (np a && np b):=rfl
 cases x with
 | bl k =>
   unfold Rel at r1
   refine ⟨k,r1,?_⟩
   cases k with
   | false =>
     rw [if_neg ai]
     refine ⟨G,F1,δ1,d,δ',ok1,ev,fun u H2 F2 st2 sm2 ok2 r2=>post u H2 F2 (st1.trans st2) (fun n=>?_) ok2 (fu (da nb r2))⟩
     rw [np1,aa] at n
     exact (sm1 n.1).trans (sm2 n.2)
   | true =>
     rw [if_pos rfl]
     cases ev
     exact post _ H1 F1 st1 (fun n=>by rw [np1,aa] at n;exact sm1 n.1) ok1 (fu (jd true))
 | _=>cases ev
theorem CJ {a:E} {y:Expr} {pos:Pos} (na:(!bG a) = true) (ha:PE X y (tE X.K cx a)):PE X (.UnaryOp .Not y pos) (tE X.K cx (.not a)):=by
 refine PE.imp (Hf ha) fun σ H Q h=>?_
 obtain ⟨G,F,δ,d,δ',ok,ev,post⟩:=h
 simp only [evE,ao,af] at ev
 obtain ⟨⟨x,δ1⟩,ea,ev⟩:=ev
 refine ⟨G,F,δ,x,δ1,ok,ea,fun v H1 F1 st1 sm1 ok1 r1=>?_⟩
 replace r1:=da na r1
 cases x with
 | bl k =>
   unfold Rel at r1
   cases ev
   exact ⟨k,r1,post _ H1 F1 st1 sm1 ok1 (fu (jd _))⟩
 | _=>cases ev
theorem PT.pw {op:BoolOp} {vs:List Expr} {pos:Pos} {t:TT} (h:PT X (.BoolOp op vs pos) t):PW X (.BoolOp op vs pos) t:=fun _ pins s σ H Q I q=>h pins s σ H Q I q
theorem rz {a b:E} {y z:Expr} {r:List Expr} {pos:Pos} (ha:PT X y (tT X.K cx a)) (hb:PW X (.BoolOp .And (z::r) pos) (tT X.K cx b)):PT X (.BoolOp .And (y::z::r) pos) (tT X.K cx (.and a b)):=by
 refine PT.imp (GU ha hb).pt fun σ H Q h=>?_
 obtain ⟨G,F,δ,d,δ',ok,ev,post⟩:=h
 simp only [evT,ao,af] at ev
 obtain ⟨⟨k,δ1⟩,ea,ev⟩:=ev
 have np1:np (.and a b) = (np a && np b):=rfl
 refine ⟨G,F,δ,k,δ1,ok,ea,fun H1 F1 st1 sm1 ok1=>?_⟩
 cases k with
 | true =>
   rw [if_pos rfl]
   refine ⟨G,F1,δ1,d,δ',ok1,ev,fun H2 F2 st2 sm2 ok2=>post H2 F2 (st1.trans st2) (fun n=>?_) ok2⟩
   rw [np1,aa] at n
   exact (sm1 n.1).trans (sm2 n.2)
 | false =>
   rw [if_neg ai]
   cases ev
   exact post H1 F1 st1 (fun n=>by rw [np1,aa] at n;exact sm1 n.1) ok1
theorem uW {a b:E} {y z:Expr} {r:List Expr} {pos:Pos} (ha:PT X y (tT X.K cx a)) (hb:PW X (.BoolOp .Or (z::r) pos) (tT X.K cx b)):PT X (.BoolOp .Or (y::z::r) pos) (tT X.K cx (.or a b)):=by
 refine PT.imp (Jx ha hb).pt fun σ H Q h=>?_
 obtain ⟨G,F,δ,d,δ',ok,ev,post⟩:=h
 simp only [evT,ao,af] at ev
 obtain ⟨⟨k,δ1⟩,ea,ev⟩:=ev
 have np1:np (.or a b) = (np a && np b):=rfl
 refine ⟨G,F,δ,k,δ1,ok,ea,fun H1 F1 st1 sm1 ok1=>?_⟩
 cases k with
 | false =>
   rw [if_neg ai]
   refine ⟨G,F1,δ1,d,δ',ok1,ev,fun H2 F2 st2 sm2 ok2=>post H2 F2 (st1.trans st2) (fun n=>?_) ok2⟩
   rw [np1,aa] at n
   exact (sm1 n.1).trans (sm2 n.2)
 | true =>
   rw [if_pos rfl]
   cases ev
   exact post H1 F1 st1 (fun n=>by rw [np1,aa] at n;exact sm1 n.1) ok1
theorem zK {a:E} {y:Expr} {pos:Pos} (ha:PT X y (tT X.K cx a)):PT X (.UnaryOp .Not y pos) (tT X.K cx (.not a)):=by
 refine PT.imp (GV ha) fun σ H Q h=>?_
 obtain ⟨G,F,δ,d,δ',ok,ev,post⟩:=h
 simp only [evT,ao,af] at ev
 obtain ⟨⟨k,δ1⟩,ea,ev⟩:=ev
 cases ev
 exact ⟨G,F,δ,k,δ1,ok,ea,fun H1 F1 st1 sm1 ok1=>post H1 F1 st1 sm1 ok1⟩
theorem CO {c a b:E} {t y z:Expr} {pos:Pos} (na:(!bG a) = true) (nb:(!bG b) = true) (hc:PT X t (tT X.K cx c)) (ha:PE X y (tE X.K cx a)) (hb:PE X z (tE X.K cx b)):PE X (.IfExp t y z pos) (tE X.K cx (.ite c a b)):=by
 refine PE.imp (Al hc ha hb) fun σ H Q h=>?_
 obtain ⟨G,F,δ,d,δ',ok,ev,post⟩:=h
 simp only [evE,ao,af] at ev
 obtain ⟨⟨k,δ1⟩,ea,ev⟩:=ev
 have np1:np (.ite c a b) = (np c && np a && np b):=rfl
 refine ⟨G,F,δ,k,δ1,ok,ea,fun H1 F1 st1 sm1 ok1=>?_⟩
 cases k with
 | true =>
   rw [if_pos rfl]
   refine ⟨G,F1,δ1,d,δ',ok1,ev,fun u H2 F2 st2 sm2 ok2 r2=>post u H2 F2 (st1.trans st2) (fun n=>?_) ok2 (fu (da na r2))⟩
   rw [np1,aa,aa] at n
   exact (sm1 n.1.1).trans (sm2 n.1.2)
 | false =>
   rw [if_neg ai]
   refine ⟨G,F1,δ1,d,δ',ok1,ev,fun u H2 F2 st2 sm2 ok2 r2=>post u H2 F2 (st1.trans st2) (fun n=>?_) ok2 (fu (da nb r2))⟩
   rw [np1,aa,aa] at n
   exact (sm1 n.1.1).trans (sm2 n.2)
theorem Ok.look {σ:L2.St} {G:Gh} {H:Hp} {F:Addr->Prop} {δ:Loc} (ok:Ok K G F σ H δ) {i:Nat} {d:D} (e:get δ i = some d):∃ v,σ[i]? = some (some v)/\cU K H F d v/\∃ F',Step G F H F' H/\Ok K G F' σ H (PP.demote δ i)/\Rel K H F' d v:=by
 unfold get at e
 cases q:δ[i]? with
 | none=>rw [q] at e;cases e
 | some s =>
   rw [q] at e
   cases s with
   | no=>cases e
   | fnc _ _=>cases e
   | odc _ _=>cases e
   | val d' =>
     cases e
     obtain ⟨v,e1,r⟩:=ok.sl i _ q
     refine ⟨v,e1,.inl r,F,Step.refl,?_,r⟩
     unfold PP.demote;rw [q];exact ok
   | own ds =>
     cases e
     obtain ⟨a,xs,e1,h1,h2,h3,h4⟩:=ok.sl i _ q
     obtain ⟨o1,o2⟩:=ok.demote (d:=.lst ds) q rfl e1
     refine ⟨.ref a,e1,.inr ⟨a,xs,ds,rfl,rfl,h3,h4⟩,fun b=>F b/\b≠a,⟨fun _ _ _ z _=>z,fun b z=>.inl z.1,fun b o r z e=>⟨⟨z,fun w=>h2.2 (by rw [<- w];exact r)⟩,e⟩,fun _ ps e=>⟨ps,e⟩⟩,?_,o2⟩
     unfold PP.demote;rw [q];exact o1
theorem Ok.lookV {σ:L2.St} {G:Gh} {H:Hp} {F:Addr->Prop} {δ:Loc} (ok:Ok K G F σ H δ) {i:Nat} {d:D} (e:Bg δ i = some d):∃ v,σ[i]? = some (some v)/\∃ F',Step G F H F' H/\Ok K G F' σ H (PP.demote δ i)/\Rel K H F' d v:=by
 unfold Bg at e
 split at e
 . rename_i ks ds q
   cases e
   obtain ⟨a,xs,e1,h1,h2,_⟩:=ok.sl i _ q
   obtain ⟨o1,o2⟩:=ok.demote (d:=.dct ks ds) q rfl e1
   refine ⟨.ref a,e1,fun b=>F b/\b≠a,⟨fun _ _ _ z _=>z,fun b z=>.inl z.1,fun b o r z e=>⟨⟨z,fun w=>h2.2 (by rw [<- w];exact r)⟩,e⟩,fun _ ps e=>⟨ps,e⟩⟩,?_,o2⟩
   unfold PP.demote;rw [q];exact o1
 . obtain ⟨v,e1,_,h⟩:=ok.look e
   exact ⟨v,e1,h⟩
theorem CB {i:Nat} {x:Str} {pos:Pos} (hN:X.N[i]? = some x) (hv:Vis X.env.scope x) (hd:(x == ("__debug__":Str)) = false) (hcd:(x == ("__classdict__":Str)) = false):PE X (.Name x pos) (tE X.K cx (.var i)):=by
 refine PE.imp (je hN hv hd hcd) fun σ H Q h=>?_
 obtain ⟨G,F,δ,d,δ',ok,ev,post⟩:=h
 simp only [evE,ao,af] at ev
 obtain ⟨d',e1,e⟩:=ev
 cases e
 obtain ⟨v,ev,F',st,ok',r⟩:=ok.lookV e1
 exact ⟨v,ev,post v H F' st (fun _=>Sim.refl H) ok' (fu r)⟩
theorem Gn {i:Nat} {x:Str} {pos:Pos} (hN:X.N[i]? = some x) (hv:Vis X.env.scope x) (hd:(x == ("__debug__":Str)) = false) (hcd:(x == ("__classdict__":Str)) = false):PE X (.Name x pos) (tE X.K cx (.pk i)):=by
 refine PE.imp (je hN hv hd hcd) fun σ H Q h=>?_
 obtain ⟨G,F,δ,d,δ',ok,ev,post⟩:=h
 simp only [evE,ao,af] at ev
 obtain ⟨d',e1,e⟩:=ev
 cases e
 obtain ⟨v,ev,rb,_⟩:=ok.look e1
 exact ⟨v,ev,post v H F Step.refl (fun _=>Sim.refl H) ok rb⟩
theorem zv {H:Hp} {F:Addr->Prop} {d:D} {v:V} {k:Bool} (r:cU K H F d v) (e:tv d = some k):IH K v H k:=by
 cases d with
 | non=>cases e;rcases r with r | ⟨_,_,_,z,_⟩;(unfold Rel at r;subst r;rfl);cases z
 | bl b=>cases e;have:=r.bl;subst this;rfl
 | int i=>cases e;have:=r.int;subst this;rfl
 | str x =>
   change (if x.length<=sizeLine then some ((x.length:Int) != 0) else none) = some k at e
   split at e
   . cases e;have:=r.str;subst this;exact ⟨‹_›,rfl⟩
   . cases e
 | lst ds =>
   cases e
   obtain ⟨a,xs,rfl,h1,h2⟩:=r.lst
   refine .inl ⟨xs,h1.sq,?_⟩
   have:=h2.length
   cases ds<;>cases xs<;>first | rfl | (simp at this)
 | tup ds =>
   cases e
   obtain ⟨a,xs,rfl,h1,h2⟩:=r.tup
   refine .inr (.inl ⟨xs,h1,?_⟩)
   have:=h2.length
   cases ds<;>cases xs<;>first | rfl | (simp at this)
 | fn _ _=>cases e
 | dct _ _=>cases e
theorem rp {i:Nat} {x:Str} {pos:Pos} {e:E} (he:e = .var i\/e = .pk i) (hN:X.N[i]? = some x) (hv:Vis X.env.scope x) (hd:(x == ("__debug__":Str)) = false) (hcd:(x == ("__classdict__":Str)) = false):PT X (.Name x pos) (tT X.K cx e):=by
 refine PT.imp (rR (je hN hv hd hcd) fun _=>rfl) fun σ H Q h=>?_
 obtain ⟨G,F,δ,k,δ',ok,ev,post⟩:=h
 have ev':∃ d,get δ i = some d/\tv d = some k/\δ = δ':=by
  rcases he with rfl | rfl
  . simp only [evT,ao,af] at ev
    obtain ⟨d,e1,k',e2,e⟩:=ev
    cases e
    exact ⟨d,e1,e2,rfl⟩
  . simp only [evT,ao,af] at ev
    obtain ⟨d,e1,k',e2,e⟩:=ev
    cases e
    exact ⟨d,e1,e2,rfl⟩
 obtain ⟨d,e1,e2,rfl⟩:=ev'
 obtain ⟨v,ev,rb,_⟩:=ok.look e1
 exact ⟨v,ev,k,zv rb e2,post H F Step.refl (fun _=>Sim.refl H) ok⟩
theorem CP {i:Int} {j:Nat} {pos:Pos}:PE X (.Constant (.int i) j pos) (tE X.K cx (.int i)) :=
 PE.imp Hh fun σ H Q ⟨G,F,δ,d,δ',ok,ev,post⟩=>by cases ev;exact post _ H F Step.refl (fun _=>Sim.refl H) ok (fu (cE i))
theorem Gu {i:Bool} {j:Nat} {pos:Pos}:PE X (.Constant (.bool i) j pos) (tE X.K cx (.bl i)) :=
 PE.imp JA fun σ H Q ⟨G,F,δ,d,δ',ok,ev,post⟩=>by cases ev;exact post _ H F Step.refl (fun _=>Sim.refl H) ok (fu (jd i))
theorem CG {i:Str} {j:Nat} {pos:Pos}:PE X (.Constant (.str i) j pos) (tE X.K cx (.str i)) :=
 PE.imp He fun σ H Q ⟨G,F,δ,d,δ',ok,ev,post⟩=>by cases ev;exact post _ H F Step.refl (fun _=>Sim.refl H) ok (fu (cu i))
theorem CK {j:Nat} {pos:Pos}:PE X (.Constant .none j pos) (tE X.K cx .non) :=
 PE.imp Hg fun σ H Q ⟨G,F,δ,d,δ',ok,ev,post⟩=>by cases ev;exact post _ H F Step.refl (fun _=>Sim.refl H) ok (fu pU)
theorem zH {g:Nat} {x:Str} {u:Value} {v:V} {pos:Pos} (hg:Gl X x) (hm:X.mg x = some u) (r:RelV v u) (hr:∀ d,cx.gl[g]? = some d->∀ H F,Rel X.K H F d v) (hd:(x == ("__debug__":Str)) = false):PE X (.Name x pos) (tE X.K cx (.glob g)):=by
 refine PE.imp (DA hg hm r hd) fun σ H Q h=>?_
 obtain ⟨G,F,δ,d,δ',ok,ev,post⟩:=h
 simp only [evE,ao,af] at ev
 obtain ⟨d',e1,e⟩:=ev
 cases e
 exact post v H F Step.refl (fun _=>Sim.refl H) ok (fu (hr d e1 H F))
theorem CM {a:E} {y:Expr} {pos:Pos} (n:(!bG a) = true) (ha:PE X y (tE X.K cx a)):PE X (.UnaryOp .USub y pos) (tE X.K cx (.neg a)):=by
 refine PE.imp (Jy FW ha) fun σ H Q h=>?_
 obtain ⟨G,F,δ,d,δ',ok,ev,post⟩:=h
 simp only [evE,ao,af] at ev
 obtain ⟨⟨x,δ1⟩,ea,ev⟩:=ev
 cases x with
 | int i =>
   cases ev
   refine ⟨G,F,δ,_,_,ok,ea,fun v H1 F1 st sm ok1 r=>?_⟩
   have:=r.b.int
   subst this
   exact ⟨i,rfl,post _ H1 F1 st sm ok1 (fu (cE _))⟩
 | _=>cases ev
end
end PP
end
section
namespace PP
open PySem L2 PyProof.Rows
variable [Tbs]
section
variable {K:PySem.W.Frag} {cx:Cl} {X:Cx}
theorem pM:PA X [] (tEs X.K cx .nil):=by
 refine fun pos pins s σ H Q I h=>gQ pos pins s σ H Q I ?_
 obtain ⟨G,F,δ,ds,δ',ok,ev,post⟩:=h
 simp only [gY] at ev
 cases ev
 exact post [] H F Step.refl (fun _=>Sim.refl H) ok ⟨rfl,rfl⟩
theorem lX {a:E} {es:Es} {y:Expr} {ys:List Expr} (pc:(!bG a || npS es) = true) (ha:PE X y (tE X.K cx a)) (hr:PA X ys (tEs X.K cx es)) (hs:starEach (y::ys) X.env = (false,eval y X.env)::starEach ys X.env):PA X (y::ys) (tEs X.K cx (.cons a es)):=by
 refine fun pos pins s σ H Q I h=>eS ha hr hs pos pins s σ H Q I ?_
 obtain ⟨G,F,δ,ds,δ',ok,ev,post⟩:=h
 simp only [gY,ao,af] at ev
 obtain ⟨⟨x,δ1⟩,ea,⟨ds',δ2⟩,eb,e⟩:=ev
 cases e
 refine ⟨G,F,δ,x,δ1,ok,ea,fun v H1 F1 st1 sm1 ok1 r1=>⟨G,F1,δ1,ds',δ2,ok1,eb,fun vs H2 F2 st2 sm2 ok2 r2=>?_⟩⟩
 refine post (v::vs) H2 F2 (st1.trans st2) (fun z=>?_) ok2 ⟨x,ds',v,vs,rfl,rfl,RelM.step ok1.fd st2 (fun z=>sm2 (by rw [z] at pc;simpa using pc)) r1,r2⟩
 have z':(np a && npS es) = true:=z
 rw [aa] at z'
 exact (sm1 z'.1).trans (sm2 z'.2)
theorem kH.rl {H:Hp} {F:Addr->Prop}:∀ {es:Es} {ds:List D} {vs:List V},ir es = true->kH K H F es ds vs->aA K H F ds vs
 | .nil,ds,vs,_,h=>by obtain ⟨rfl,rfl⟩:=h;exact aA.nil
 | .cons e es,ds,vs,n,h=>by
   obtain ⟨d,ds',v,vs',rfl,rfl,h1,h2⟩:=h
   have n':(!bG e && ir es) = true:=n
   rw [aa] at n'
   exact aA.cons (da n'.1 h1) (kH.rl n'.2 h2)
noncomputable def sW (K:PySem.W.Frag) (H:Hp) (F:Addr->Prop):List D->List V->Prop
 | [],vs=>vs = []
 | d::ds,vs=>∃ v vs',vs = v::vs'/\cU K H F d v/\sW K H F ds vs'
theorem kH.bl {H:Hp} {F:Addr->Prop}:∀ {es:Es} {ds:List D} {vs:List V},kH K H F es ds vs->sW K H F ds vs
 | .nil,ds,vs,h=>by obtain ⟨rfl,rfl⟩:=h;rfl
 | .cons e es,ds,vs,h=>by
   obtain ⟨d,ds',v,vs',rfl,rfl,h1,h2⟩:=h
   exact ⟨v,vs',rfl,h1.b,kH.bl h2⟩
theorem vT {f:List D->Option D} {es:Es} {δ δ':Loc} {d:D} (ev:(do let (ds,δ1) <- gY cx es δ;return (<- f ds,δ1)) = some (d,δ')):∃ ds,gY cx es δ = some (ds,δ')/\f ds = some d:=by
 simp only [ao,af] at ev
 obtain ⟨⟨ds,δ1⟩,ea,d',hd,e⟩:=ev
 cases e
 exact ⟨ds,ea,hd⟩
theorem CD {es:Es} {xs:List Expr} {k:Nat} {pos:Pos} (n:ir es = true) (h:PA X xs (tEs X.K cx es)):PE X (.Tuple xs k pos) (tE X.K cx (.tup es)):=by
 refine PE.imp (Hd h) fun σ H Q h=>?_
 obtain ⟨G,F,δ,d,δ',ok,ev,post⟩:=h
 simp only [evE,ao,af] at ev
 obtain ⟨⟨ds,δ1⟩,ea,ev⟩:=ev
 split at ev
 . rename_i hz
   cases ev
   refine ⟨G,F,δ,ds,δ1,ok,ea,fun vs H1 F1 st1 sm1 ok1 r1=>?_⟩
   have r:=r1.rl n
   refine ⟨by rw [r.length];exact hz,fun p hp=>?_⟩
   obtain ⟨o1,o2,o3,o4⟩:=ok1.laid hp (.tup vs)
   exact post _ _ _ (st1.trans o2) (fun z=>(sm1 z).trans o3) o1 (fu (jb ok1 hp r))
 . cases ev
theorem CN {es:Es} {xs:List Expr} {pos:Pos} (n:ir es = true) (h:PA X xs (tEs X.K cx es)):PE X (.List xs pos) (tE X.K cx (.lst es)):=by
 refine PE.imp (mn h) fun σ H Q h=>?_
 obtain ⟨G,F,δ,d,δ',ok,ev,post⟩:=h
 simp only [evE,ao,af] at ev
 obtain ⟨⟨ds,δ1⟩,ea,ev⟩:=ev
 split at ev
 . rename_i hz
   cases ev
   refine ⟨G,F,δ,ds,δ1,ok,ea,fun vs H1 F1 st1 sm1 ok1 r1=>?_⟩
   have r:=r1.rl n
   refine ⟨by rw [r.length];exact hz,fun p hp=>?_⟩
   obtain ⟨o1,o2,o3,o4⟩:=ok1.laid hp (.lst vs)
   exact post _ _ _ (st1.trans o2) (fun z=>(sm1 z).trans o3) o1 (fu (jc ok1 hp r))
 . cases ev
theorem aA.at {H:Hp} {F:Addr->Prop} {ds:List D} {xs:List V} {i:Int} {d:D} (h:aA K H F ds xs) (e:atI ds i = some d):∃ v,atI xs i = some v/\Rel K H F d v:=by
 unfold atI at e ⊢
 rw [h.length]
 cases q:ixN ds.length i with
 | none=>rw [q] at e;cases e
 | some j =>
   rw [q] at e
   exact h.get e
theorem Gp {a b:E} {y z:Expr} {pos:Pos} (pc:(!bG a || np b) = true) (ha:PE X y (tE X.K cx a)) (hb:PE X z (tE X.K cx b)) (hp:PlainIx z):PE X (.Subscript y z pos) (tE X.K cx (.ix a b)):=by
 refine PE.imp (EE AW ha hb hp) fun σ H Q h=>?_
 obtain ⟨G,F,δ,d,δ',ok,ev,post⟩:=h
 simp only [evE,ao,af] at ev
 obtain ⟨⟨x,δ1⟩,ea,⟨y',δ2⟩,eb,d',hd,e⟩:=ev
 cases e
 dsimp only at eb hd post
 refine two ok ea eb pc fun v u H2 F2 st sm ok2 r1 r2=>?_
 unfold ixD at hd
 split at hd
 . have e2:=r2.b.int
   obtain ⟨p,xs,e1,h1,h2⟩:=r1.b.lst
   obtain ⟨w,hw,rw'⟩:=h2.at hd
   exact .inl ⟨p,xs,_,w,e1,e2,h1.sq,hw,post _ _ _ st sm ok2 (fu rw')⟩
 . have e2:=r2.b.int
   obtain ⟨p,xs,e1,h1,h2⟩:=r1.b.tup
   obtain ⟨w,hw,rw'⟩:=h2.at hd
   exact .inr (.inl ⟨p,xs,_,w,e1,e2,h1,hw,post _ _ _ st sm ok2 (fu rw')⟩)
 . have e2:=r2.b.int
   have e1:=r1.b.str
   split at hd
   . rename_i hz
     rw [aL] at hd
     obtain ⟨c,hc,rfl⟩:=hd
     exact .inr (.inr ⟨_,_,c,e1,e2,hz,hc,post _ _ _ st sm ok2 (fu (cu _))⟩)
   . cases hd
 . cases hd
theorem EC {o:Eo} {l:Option Expr} (h:∀ e,o = .yes e->∃ y,l = some y/\(!bG e) = true/\PE X y (tE X.K cx e)) (hn:o = .no->l = none):PO X l (tO X.K cx o):=by
 cases o with
 | no =>
   rw [hn rfl]
   intro pins s σ H Q I q
   refine Dz pins s σ H Q I ?_
   obtain ⟨G,F,δ,d,δ',ok,ev,post⟩:=q
   simp only [evO] at ev
   cases ev
   exact post H F Step.refl (fun _=>Sim.refl H) ok
 | yes e =>
   obtain ⟨y,rfl,n,hy⟩:=h e rfl
   intro pins s σ H Q I q
   refine Dy hy pins s σ H Q I ?_
   obtain ⟨G,F,δ,d,δ',ok,ev,post⟩:=q
   simp only [evO,ao,af] at ev
   obtain ⟨⟨x,δ1⟩,ea,ev⟩:=ev
   cases x with
   | int i =>
     cases ev
     exact ⟨G,F,δ,.int i,δ',ok,ea,fun v H1 F1 st1 sm1 ok1 r1=>⟨i,by have:=da n r1;unfold Rel at this;exact this,post H1 F1 st1 sm1 ok1⟩⟩
   | _=>cases ev
theorem Gm {a:E} {lo hi:Eo} {y:Expr} {l h:Option Expr} {pos p2:Pos} (pc:(!bG a || (npO lo && npO hi)) = true) (ha:PE X y (tE X.K cx a)) (hl:PO X l (tO X.K cx lo)) (hh:PO X h (tO X.K cx hi)):PE X (.Subscript y (.Slice l h none p2) pos) (tE X.K cx (.sl a lo hi)):=by
 refine PE.imp (rW (uX.or (Gw.or Gx)) ha hl hh) fun σ H Q h=>?_
 obtain ⟨G,F,δ,d,δ',ok,ev,post⟩:=h
 simp only [evE,ao,af] at ev
 obtain ⟨⟨x,δ1⟩,ea,⟨l',δ2⟩,eb,⟨h',δ3⟩,ec,d',hd,e⟩:=ev
 cases e
 dsimp only at eb ec hd post
 refine ⟨G,F,δ,x,δ1,ok,ea,fun v H1 F1 st1 sm1 ok1 r1=>⟨G,F1,δ1,l',δ2,ok1,eb,fun H2 F2 st2 sm2 ok2=>⟨G,F2,δ2,h',δ3,ok2,ec,fun H3 F3 st3 sm3 ok3=>?_⟩⟩⟩
 have st:=st2.trans st3
 have rb:cU X.K H3 F3 x v:=by
  refine (RelM.step ok1.fd st (fun z=>?_) r1).b
  rw [z] at pc
  have pc':(npO lo && npO hi) = true:=by simpa using pc
  rw [aa] at pc'
  exact (sm2 pc'.1).trans (sm3 pc'.2)
 have fin:∀ w H4,dZ H3 H4->Ok X.K G F3 σ H4 δ3->Rel X.K H4 F3 d w->Q w H4:=fun w H4 s4 o4 r4=>post w H4 F3 ((st1.trans st).trans (Step.of_same s4)) (fun z=>by
  have z':(np a && npO lo && npO hi) = true:=z
  rw [aa,aa] at z'
  exact (((sm1 z'.1.1).trans (sm2 z'.1.2)).trans (sm3 z'.2)).trans (.of s4)) o4 (fu r4)
 unfold slD at hd
 split at hd
 . cases hd
   obtain ⟨p,xs,e1,h1,h2⟩:=rb.lst
   refine .inl ⟨p,xs,e1,h1.sq,fun q hq=>?_⟩
   obtain ⟨o1,o2,o3,o4⟩:=ok3.laid hq (.lst (nQ xs l' h'))
   exact fin _ _ (cj hq _) o1 (jc ok3 hq (h2.cut l' h'))
 . split at hd
   . cases hd
   . rename_i hw
     cases hd
     obtain ⟨p,xs,e1,h1,h2⟩:=rb.tup
     refine .inr (.inl ⟨p,xs,e1,h1,by rw [h2.length];exact hw,fun q hq=>?_⟩)
     obtain ⟨o1,o2,o3,o4⟩:=ok3.laid hq (.tup (nQ xs l' h'))
     exact fin _ _ (cj hq _) o1 (jb ok3 hq (h2.cut l' h'))
 . split at hd
   . cases hd
     have e1:=rb.str;subst e1
     exact .inr (.inr ⟨_,rfl,‹_›,fin _ _ (fun b o e=>e) ok3 (cu _)⟩)
   . cases hd
 . cases hd
noncomputable def spF (K:PySem.W.Frag) (f:List D->Option D):Sp:=fun vs H Q _=>∃ F ds d,FD F H/\TF F/\iC H/\aA K H F ds vs/\f ds = some d/\∀ v H',Sim H H'->iC H'->Rel K H' F d v->Q v H'
theorem zJ {f:Nat} {es:Es} {x:Str} {y:Expr} {ys:List Expr} {k:Nat} {a:Addr} {fd:FuncData} {ps:List Str} {p pos:Pos} (n:ir es = true) (fn:fN X.prog X.w X.K X.mg X.base CX0 k a fd ps (spF X.K (cx.call f))) (hr:eJ k X.A) (hg:Gl X x)
 (hm:X.mg x = some (.ref a)) (hk:PySem.W.keepIn X.K (.ref a) = true) (hb:Binds X.K fd ps []) (hA:PA X (y::ys) (tEs X.K cx es)) (hd:(x == ("__debug__":Str)) = false) (he:starEach (y::ys) X.env = (false,eval y X.env)::starEach ys X.env) (hpl:(backTo pos (starEach ys X.env)).any (·.1) = false) :
 PE X (.Call (.Name x p) (y::ys) [] pos) (tE X.K cx (.call f es)):=by
 refine PE.imp (vj fn hr hg hm hk hb .nil (EG) hA hd he hpl) fun σ H Q h=>?_
 obtain ⟨G,F,δ,d,δ',ok,ev,post⟩:=h
 simp only [evE] at ev
 obtain ⟨ds,ea,hd⟩:=vT ev
 refine ⟨G,F,δ,ds,δ',ok,ea,fun vs H1 F1 st1 sm1 ok1 r1=>?_⟩
 show spF X.K (cx.call f) (vs++[]) H1 Q E0
 rw [cP]
 exact ⟨F1,ds,d,ok1.fd,ok1.tf,ok1.tabs,r1.rl n,hd,fun v H2 s2 t2 r2=>post v H2 F1 (st1.trans (ok1.call s2 t2).2) (fun z=>(sm1 z).trans s2) (ok1.call s2 t2).1 (fu r2)⟩
theorem ll {e:E} {x:Expr} {es:Es} {f:List D->Option D} (hE:PE X x (tE X.K cx e)) (he:∀ whole,isTrue x X.env whole = (do let v <- whole;standAt x.pos;holding [v] (truthy v))) (n:bG e = false)
 (e1:∀ δ,evE cx e δ = (do let (ds,δ1) <- gY cx es δ;return (<- f ds,δ1))) (e2:∀ δ,evT cx e δ = (do let (ds,δ1) <- gY cx es δ;let d <- f ds;return (<- tv d,δ1))):PT X x (tT X.K cx e):=by
 refine PT.imp (rR hE he) fun σ H Q h=>?_
 obtain ⟨G,F,δ,k,δ',ok,ev,post⟩:=h
 rw [e2] at ev
 simp only [ao,af] at ev
 obtain ⟨⟨ds,δ1⟩,ea,d,hd,k',hk,e⟩:=ev
 cases e
 refine ⟨G,F,δ,d,δ1,ok,?_,fun v H1 F1 st1 sm1 ok1 r1=>⟨k,zv r1.b hk,post H1 F1 st1 sm1 ok1⟩⟩
 rw [e1]
 simp only [ao,af]
 exact ⟨(ds,δ1),ea,d,hd,rfl⟩
noncomputable def rB (K:PySem.W.Frag) (f:List D->Option D):List V->Hp->VK->Prop:=fun xs H Q=>∃ F ds d,FD F H/\sW K H F ds xs/\f ds = some d/\∀ v H',dZ H H'->Rel K H' F d v->Q v H'
theorem bT.imp {f:Value} {r r':List V->Hp->VK->Prop} (h:bT X f r) (w:∀ xs H Q,r' xs H Q->r xs H Q):bT X f r':=fun pins s σ H xs us Q I rv q=>h pins s σ H xs us Q I rv (w _ _ _ q)
theorem b1 {H:Hp} {F:Addr->Prop} {d:D} {xs:List V} (h:sW K H F [d] xs):∃ v,xs = [v]/\cU K H F d v:=by
 obtain ⟨v,vs,rfl,h1,h2⟩:=h
 cases h2
 exact ⟨v,rfl,h1⟩
theorem b2 {H:Hp} {F:Addr->Prop} {d e:D} {xs:List V} (h:sW K H F [d,e] xs):∃ v u,xs = [v,u]/\cU K H F d v/\cU K H F e u:=by
 obtain ⟨v,vs,rfl,h1,u,us,rfl,h2,h3⟩:=h
 cases h3
 exact ⟨v,u,rfl,h1,h2⟩
theorem oG {F:Addr->Prop} {H:Hp} {p:Addr} (fd:FD F H) (hp:H p = none):¬ F p:=fd.none hp
theorem Iw:bT X (.builtin "len") (rB X.K DQ):=by
 refine bT.imp (qB.or qA) fun xs H Q ⟨F,ds,d,fd,r,e,q⟩=>?_
 unfold DQ at e
 split at e
 . split at e
   . cases e
     obtain ⟨v,rfl,rv⟩:=b1 r
     exact .inr ⟨_,by rw [rv.str],‹_›,q _ _ (dZ.refl H) (cE _)⟩
   . cases e
 . cases e
   obtain ⟨v,rfl,rv⟩:=b1 r
   obtain ⟨a,ys,rfl,h1,h2⟩:=rv.lst
   exact .inl ⟨a,ys,rfl,.inl h1.sq,by rw [h2.length];exact q _ _ (dZ.refl H) (cE _)⟩
 . cases e
   obtain ⟨v,rfl,rv⟩:=b1 r
   obtain ⟨a,ys,rfl,h1,h2⟩:=rv.tup
   exact .inl ⟨a,ys,rfl,.inr h1,by rw [h2.length];exact q _ _ (dZ.refl H) (cE _)⟩
 . cases e
theorem Ir (hc:X.calm = true):bT X (.builtin "min") (rB X.K minD):=by
 refine bT.imp (xY hc) fun xs H Q ⟨F,ds,d,fd,r,e,q⟩=>?_
 unfold minD at e
 split at e
 . cases e
   obtain ⟨v,u,rfl,r1,r2⟩:=b2 r
   exact ⟨_,_,by rw [r1.int,r2.int],q _ _ (dZ.refl H) (cE _)⟩
 . cases e
theorem yd:bT X (.type "int") (fun xs H Q=>∃ x n,xs = [.str x]/\PySem.intText? x = some n/\x.length<=640/\Q (.int n) H):=by
 intro pins s σ H xs us Q I rv h
 obtain ⟨x,n,rfl,h1,h2,q⟩:=h
 obtain ⟨u,rfl,ru⟩:=rv.one
 obtain ⟨t,rfl⟩:=ru
 exact PySem.W.KIN.call_text h1 h2 ⟨.int n,H,I.tok _,⟨_,rfl⟩,q⟩
theorem Iy:bT X (.type "int") (rB X.K pI):=by
 refine bT.imp (ye.or yd) fun xs H Q ⟨F,ds,d,fd,r,e,q⟩=>?_
 unfold pI at e
 split at e
 . cases e
   obtain ⟨v,rfl,r1⟩:=b1 r
   exact .inl (.inl ⟨_,by rw [r1.int],q _ _ (dZ.refl H) (cE _)⟩)
 . cases e
   obtain ⟨v,rfl,r1⟩:=b1 r
   exact .inl (.inr ⟨_,by rw [r1.bl],q _ _ (dZ.refl H) (cE _)⟩)
 . split at e
   . rw [aL] at e
     obtain ⟨n,e1,rfl⟩:=e
     obtain ⟨v,rfl,r1⟩:=b1 r
     exact .inr ⟨_,n,by rw [r1.str],e1,‹_›,q _ _ (dZ.refl H) (cE _)⟩
   . cases e
 . cases e
theorem Iq:bT X (.type "str") (rB X.K pH):=by
 refine bT.imp qx fun xs H Q ⟨F,ds,d,fd,r,e,q⟩=>?_
 unfold pH at e
 split at e
 . split at e
   . cases e
     obtain ⟨v,rfl,r1⟩:=b1 r
     exact ⟨_,by rw [r1.int],‹_›,q _ _ (dZ.refl H) (cu _)⟩
   . cases e
 . cases e
theorem oo {F:Addr->Prop} {H H':Hp} (h:dZ H H'):Step g0 F H F H':=Step.of_same h
theorem Ip:bT X (.type "tuple") (rB X.K pG):=by
 refine bT.imp nY fun xs H Q ⟨F,ds,d,fd,r,e,q⟩=>?_
 unfold pG at e
 split at e
 . cases e
   obtain ⟨v,rfl,r1⟩:=b1 r
   obtain ⟨a,ys,rfl,h1,h2⟩:=r1.lst
   refine ⟨a,ys,rfl,.inl ⟨h1.sq,fun l hl=>q _ _ (cj hl _) ?_⟩⟩
   unfold Rel
   exact ⟨l,ys,rfl,SqT.of bt,aA.step fd (oo (cj hl _)) _ _ h2⟩
 . cases e
   obtain ⟨v,rfl,r1⟩:=b1 r
   obtain ⟨a,ys,rfl,h1,h2⟩:=r1.tup
   refine ⟨a,ys,rfl,.inr ⟨h1,q _ _ (dZ.refl H) ?_⟩⟩
   unfold Rel
   exact ⟨a,ys,rfl,h1,h2⟩
 . cases e
theorem Iv:bT X (.type "list") (rB X.K jW):=by
 refine bT.imp jL fun xs H Q ⟨F,ds,d,fd,r,e,q⟩=>?_
 unfold jW at e
 split at e
 . cases e
   obtain ⟨v,rfl,r1⟩:=b1 r
   obtain ⟨a,ys,rfl,h1,h2⟩:=r1.lst
   refine ⟨a,ys,rfl,.inl h1.sq,fun l hl=>q _ _ (cj hl _) ?_⟩
   unfold Rel
   exact ⟨l,ys,rfl,.inl ⟨.inl bt,oG fd hl⟩,aA.step fd (oo (cj hl _)) _ _ h2⟩
 . cases e
   obtain ⟨v,rfl,r1⟩:=b1 r
   obtain ⟨a,ys,rfl,h1,h2⟩:=r1.tup
   refine ⟨a,ys,rfl,.inr h1,fun l hl=>q _ _ (cj hl _) ?_⟩
   unfold Rel
   exact ⟨l,ys,rfl,.inl ⟨.inl bt,oG fd hl⟩,aA.step fd (oo (cj hl _)) _ _ h2⟩
 . cases e
theorem oM {H:Hp} {F:Addr->Prop}:∀ {ds:List D} {ns:List Int} {xs:List V},oN ds = some ns->aA K H F ds xs->xs = ns.map V.int
 | [],ns,xs,e,r=>by cases e;unfold aA at r;exact r
 | d::ds,ns,xs,e,r=>by
   unfold aA at r
   obtain ⟨y,ys,rfl,h1,h2⟩:=r
   cases d with
   | int i =>
     unfold oN at e
     rw [aL] at e
     obtain ⟨ms,e,rfl⟩:=e
     unfold Rel at h1
     rw [h1,oM e h2,aI]
   | _=>cases e
theorem Iu (hc:X.calm = true):bT X (.builtin "max") (rB X.K maxD):=by
 intro pins s σ H xs us Q I rv ⟨F,ds,d,fd,r,e,q⟩
 unfold maxD at e
 split at e
 . cases e
   obtain ⟨v,u,rfl,r1,r2⟩:=b2 r
   exact yc hc pins s σ H _ us Q I rv ⟨_,_,by rw [r1.int,r2.int],q _ _ (dZ.refl H) (cE _)⟩
 . rw [af] at e
   obtain ⟨ns,e,e'⟩:=e
   split at e'
   . cases e'
   . rename_i hne
     cases e'
     obtain ⟨v,rfl,r1⟩:=b1 r
     obtain ⟨a,ys,rfl,h1,h2⟩:=r1.lst
     rw [oM e h2] at h1
     exact xZ hc pins s σ H _ us Q I rv ⟨a,ns,rfl,hne,h1.sq,q _ _ (dZ.refl H) (cE _)⟩
 . cases e
theorem ng {H:Hp} {F:Addr->Prop}:∀ {ds:List D} {ns:List Bool} {xs:List V},ji ds = some ns->aA K H F ds xs->xs = ns.map V.bl
 | [],ns,xs,e,r=>by cases e;unfold aA at r;exact r
 | d::ds,ns,xs,e,r=>by
   unfold aA at r
   obtain ⟨y,ys,rfl,h1,h2⟩:=r
   cases d with
   | bl i =>
     unfold ji at e
     rw [aL] at e
     obtain ⟨ms,e,rfl⟩:=e
     unfold Rel at h1
     rw [h1,ng e h2,aI]
   | _=>cases e
theorem IA (hc:X.calm = true):bT X (.builtin "any") (rB X.K Ep):=by
 refine bT.imp (yf hc) fun xs H Q ⟨F,ds,d,fd,r,e,q⟩=>?_
 unfold Ep at e
 split at e
 . rw [aL] at e
   obtain ⟨ns,e,rfl⟩:=e
   obtain ⟨v,rfl,r1⟩:=b1 r
   obtain ⟨a,ys,rfl,h1,h2⟩:=r1.lst
   rw [ng e h2] at h1
   exact ⟨a,ns,rfl,h1.sq,q _ _ (dZ.refl H) (jd _)⟩
 . cases e
theorem xW (hu:X.A.units+200 < cLine):bT X (.builtin "sorted") (rB X.K lj):=by
 refine bT.imp (qz hu) fun xs H Q ⟨F,ds,d,fd,r,e,q⟩=>?_
 unfold lj at e
 split at e
 . split at e
   . rename_i zs hs
     cases e
     obtain ⟨v,rfl,r1⟩:=b1 r
     refine ⟨F,zs,v,rfl,r1,hs,fun p ys hp ry=>q _ _ (cj hp _) ?_⟩
     unfold Rel
     exact ⟨p,ys,rfl,.inl ⟨.inl bt,oG fd hp⟩,aA.step fd (oo (cj hp _)) _ _ ry⟩
   . cases e
 . cases e
theorem fo {f:Blt} {es:Es} {x:Str} {p pos:Pos} {xs:List Expr} (g:List D->Option D) (hg:hX f = g) (h:PE X (.Call (.Name x p) xs [] pos) (tCB (rB X.K g) (tEs X.K cx es))):PE X (.Call (.Name x p) xs [] pos) (tE X.K cx (.blt f es)):=by
 subst hg
 refine PE.imp h fun σ H Q h=>?_
 obtain ⟨G,F,δ,d,δ',ok,ev,post⟩:=h
 simp only [evE] at ev
 obtain ⟨ds,ea,hd⟩:=vT ev
 refine ⟨G,F,δ,ds,δ',ok,ea,fun vs H1 F1 st1 sm1 ok1 r1=>?_⟩
 exact ⟨F1,ds,d,ok1.fd,r1.bl,hd,fun v H2 s2 r2=>post v H2 F1 (st1.trans (Step.of_same s2)) (fun z=>(sm1 z).trans (.of s2)) (ok1.same' s2) (fu r2)⟩
end
end PP
end
section
namespace PP
open PySem L2 PyProof.Rows
variable [Tbs]
section
variable {K:PySem.W.Frag} {cx:Cl} {X:Cx}
theorem Gr {f:Blt} {e:E} {T:String} {y:Expr} {t:Str} {p pos tp:Pos} (hT:tyName f = some T) (ht:t = (T:Str)) (hg:Gl X "isinstance") (hm:X.mg "isinstance" = none) (hgt:Gl X t) (hmt:X.mg t = none) (hy:PE X y (tE X.K cx e)) (hs:starEach [y,.Name t tp] X.env = [(false,eval y X.env),(false,eval (.Name t tp) X.env)]) :
 PE X (.Call (.Name "isinstance" p) [y,.Name t tp] [] pos) (tE X.K cx (.blt f (.cons e .nil))):=by
 have hb:bootBuiltins t = some (.type T):=by
  subst ht
  cases f<;>simp [tyName] at hT<;>subst hT<;>rfl
 have hn:t≠"__name__":=by
  subst ht
  cases f<;>simp [tyName] at hT<;>subst hT<;>decide +kernel
 have hdb:(t == ("__debug__":Str)) = false:=by
  subst ht
  cases f<;>simp [tyName] at hT<;>subst hT<;>decide +kernel
 have hA:PA X [y,.Name t tp] (uS (tE X.K cx e) (uS (tC (.ty T)) Jl)):=eS hy (eS (DC hgt hmt hb rfl hn hdb) gQ rfl) hs
 refine PE.imp (fv (Bv hT) hg hm rfl hA (by decide +kernel) (by decide +kernel) hs rfl) fun σ H Q h=>?_
 obtain ⟨G,F,δ,d,δ',ok,ev,post⟩:=h
 simp only [evE] at ev
 obtain ⟨ds,ea,hd⟩:=vT ev
 simp only [gY,ao,af] at ea
 obtain ⟨⟨x,δ1⟩,ea,⟨ds',δ2⟩,eb,e2⟩:=ea
 cases eb
 cases e2
 obtain ⟨b,rfl⟩:∃ b,d = .bl b:=by
  cases f<;>simp [tyName] at hT<;>(cases x<;>simp [hX,gu] at hd<;>exact ⟨_,hd.symm⟩)
 refine ⟨G,F,δ,x,δ1,ok,ea,fun v H1 F1 st1 sm1 ok1 r1=>?_⟩
 exact ⟨F1,x,v,b,r1.b,rfl,hd,post _ H1 F1 st1 (fun z=>sm1 (by have z':(np e && true) = true:=z;simpa using z')) ok1 (fu (jd b))⟩
theorem aA.erase {K:PySem.W.Frag} {H:Hp} {F:Addr->Prop}:∀ {ds:List D} {xs:List V} (n:Nat),aA K H F ds xs->aA K H F (ds.eraseIdx n) (xs.eraseIdx n)
 | [],xs,n,h=>by unfold aA at h;subst h;exact aA.nil
 | e::ds,xs,0,h=>by
   unfold aA at h
   obtain ⟨y,ys,q,h1,h2⟩:=h
   subst q
   exact h2
 | e::ds,xs,n+1,h=>by
   unfold aA at h
   obtain ⟨y,ys,q,h1,h2⟩:=h
   subst q
   exact aA.cons h1 (aA.erase n h2)
theorem BU {G:Gh} {H:Hp} {F:Addr->Prop} {a:Addr} {xs:List V} {ds:List D} (fd:FD F H) (h1:Ls K H F a xs) (h3:aA K H F ds xs):Wk K G F H (Itl K a) ds:=by
 intro F2 H2 st fd2 i
 have h4:=(h1.step st).sq
 have h5:=aA.step fd st ds xs h3
 refine ⟨fun d e=>?_,fun e=>⟨xs,h4,by rw [h5.length];omega⟩⟩
 obtain ⟨v,hv,rv⟩:=h5.get e
 refine ⟨⟨xs,v,h4,hv⟩,fun x H3 y=>?_⟩
 obtain ⟨e3,y⟩:=y
 refine ⟨e3,?_⟩
 have:=y xs h4
 rw [hv] at this
 cases this
 exact rv
theorem Fc {G:Gh} {H:Hp} {F:Addr->Prop} {a:Addr} {xs:List V} {ds:List D} (fd:FD F H) (h1:SqT K H a xs) (h3:aA K H F ds xs):Wk K G F H (Itt K a) ds:=by
 intro F2 H2 st fd2 i
 have h4:=rk fd st.keep h1
 have h5:=aA.step fd st ds xs h3
 refine ⟨fun d e=>?_,fun e=>⟨xs,h4,by rw [h5.length];omega⟩⟩
 obtain ⟨v,hv,rv⟩:=h5.get e
 refine ⟨⟨xs,v,h4,hv⟩,fun x H3 y=>?_⟩
 obtain ⟨e3,y⟩:=y
 refine ⟨e3,?_⟩
 have:=y xs h4
 rw [hv] at this
 cases this
 exact rv
theorem Fe {G:Gh} {H:Hp} {F:Addr->Prop} {x:Str}:Wk K G F H (Its x) (x.cps.toList.map fun c=>D.str ⟨#[c]⟩):=by
 intro F2 H2 st fd2 i
 refine ⟨fun d e=>?_,fun e=>by show i = x.cps.size;simpa using e⟩
 rw [aS,aL] at e
 obtain ⟨c,hc,rfl⟩:=e
 have hc':x.cps[i]? = some c:=by simpa using hc
 refine ⟨(cT.mp hc').1,fun v H3 y=>?_⟩
 obtain ⟨e3,c',h1,h2⟩:=y
 refine ⟨e3,?_⟩
 rw [hc'] at h1
 cases h1
 rw [h2]
 exact cu _
theorem yB {G:Gh} {H:Hp} {F:Addr->Prop} {lo:Int} {n:Nat}:Wk K G F H (Itr lo n) (nL lo n):=by
 intro F2 H2 st fd2 i
 unfold nL
 refine ⟨fun d e=>?_,fun e=>by rw [e];simp;exact ay n⟩
 rw [aS,aL] at e
 obtain ⟨c,hc,rfl⟩:=e
 have hl:i < n:=by have:=(aE.mp hc).1;simpa using this
 rw [List.getElem?_range hl] at hc
 cases hc
 refine ⟨hl,fun v H3 y=>?_⟩
 obtain ⟨e3,h2⟩:=y
 exact ⟨e3,by rw [h2];exact cE _⟩
noncomputable def Lh (K:PySem.W.Frag) (tl:TE):TI:=fun σ H R=>tl σ H fun v H1=>(∃ a,v = .ref a/\(∃ xs,SqL K H1 a xs)/\R (Itl K a) H1)\/(∃ a,v = .ref a/\(∃ xs,SqT K H1 a xs)/\R (Itt K a) H1)\/∃ x,v = .str x/\R (Its x) H1
theorem Ha {tg l:Expr} {tl:TE} (hl:PE X l tl):PI X tg l (Lh X.K tl):=by
 intro pins s σ H R I h
 have key:∀ {v:Value} {s1:Shared} {x:V} {H1:Hp},Inv X pins σ H1 s1->RelV x v->((∃ a,x = .ref a/\(∃ xs,SqL X.K H1 a xs)/\R (Itl X.K a) H1)\/(∃ a,x = .ref a/\(∃ xs,SqT X.K H1 a xs)/\R (Itt X.K a) H1)\/∃ y,x = .str y/\R (Its y) H1) ->
  wpAny (model X.prog X.w) X.A (pyIter v) (PIE X pins σ tg R) X.xe s1:=by
  intro v s1 x H1 I1 r1 q1
  rcases q1 with ⟨a,rfl,⟨xs,hq⟩,q⟩ | ⟨a,rfl,⟨xs,hq⟩,q⟩ | ⟨z,rfl,q⟩
  . cases r1
    obtain ⟨its,rv,p,hz⟩:=I1.list hq
    refine hZ p.isList ?_
    refine ⟨s1.heap.objs.size,[s1.heap.objs.size],_,_,H1,rfl,I1.kept (t':=s1.toks) fun b o e=>ah _ e,xf a _,⟨_,aD _ rfl,rfl,rfl⟩,fun b hb=>?_,q⟩
    have e:b = s1.heap.objs.size:=by simpa using hb
    subst e
    exact I1.fpOk (ay _) (I1.hok.fresh (ay _))
  . cases r1
    obtain ⟨its,rv,p,hz⟩:=I1.tuple hq
    refine wpAny_pyIter_tuple (show s1.heap.IsTuple a its.toArray from p) ?_
    refine ⟨s1.heap.objs.size,[s1.heap.objs.size],_,_,H1,rfl,I1.kept (t':=s1.toks) fun b o e=>ah _ e,tR a _,⟨_,aD _ rfl,rfl,rfl⟩,fun b hb=>?_,q⟩
    have e:b = s1.heap.objs.size:=by simpa using hb
    subst e
    exact I1.fpOk (ay _) (I1.hok.fresh (ay _))
  . obtain ⟨t,rfl⟩:=r1
    refine wpAny_pyIter_strU ?_
    refine ⟨s1.heap.objs.size,[s1.heap.objs.size],_,_,H1,rfl,I1.kept (t':=s1.toks) fun b o e=>ah _ e,zt s1.heap.objs.size z t,⟨_,aD _ rfl,rfl,rfl⟩,fun b hb=>?_,q⟩
    have e:b = s1.heap.objs.size:=by simpa using hb
    subst e
    exact I1.fpOk (ay _) (I1.hok.fresh (ay _))
 exact thn (hl pins s σ H _ I h) fun v s1 ⟨x,H1,I1,r1,q1⟩=>key I1 r1 q1
theorem PI.imp {tg l:Expr} {t t':TI} (h:PI X tg l t) (w:∀ σ H R,t' σ H R->t σ H R):PI X tg l t':=fun pins s σ H R I q=>h pins s σ H R I (w σ H R q)
theorem Gk {tg l:Expr} {e:E} (n:(!bG e) = true) (hl:PE X l (tE X.K cx e)):PI X tg l (tI X.K cx (.sq e)):=by
 refine PI.imp (Ha hl) fun σ H R h=>?_
 obtain ⟨G,F,δ,ds,δ',ok,ev,post⟩:=h
 simp only [evI,ao,af] at ev
 obtain ⟨⟨d,δ1⟩,ea,ds',hd,e2⟩:=ev
 cases e2
 dsimp only at hd post
 refine ⟨G,F,δ,d,δ1,ok,ea,fun v H1 F1 st1 sm1 ok1 r1=>?_⟩
 have r:=da n r1
 unfold items at hd
 split at hd
 . cases hd
   unfold Rel at r
   obtain ⟨a,xs,e1,h1,h3⟩:=r
   exact .inl ⟨a,e1,⟨xs,h1.sq⟩,post _ _ _ st1 sm1 ok1 (fun _=>BU ok1.fd h1 h3)⟩
 . cases hd
   unfold Rel at r
   obtain ⟨a,xs,e1,h1,h3⟩:=r
   exact .inr (.inl ⟨a,e1,⟨xs,h1⟩,post _ _ _ st1 sm1 ok1 (fun _=>Fc ok1.fd h1 h3)⟩)
 . split at hd
   . cases hd
     unfold Rel at r
     exact .inr (.inr ⟨_,r,post _ _ _ st1 sm1 ok1 fun _=>Fe⟩)
   . cases hd
 . cases hd
theorem CI {tg y:Expr} {e:E} {p pos:Pos} (n:(!bG e) = true) (hg:Gl X "range") (hm:X.mg "range" = none) (hy:PE X y (tE X.K cx e)) (hs:starEach [y] X.env = [(false,eval y X.env)]):PI X tg (.Call (.Name "range" p) [y] [] pos) (tI X.K cx (.rng e)):=by
 refine PI.imp (xC hg hm (eS hy gQ hs) hs) fun σ H R h=>?_
 obtain ⟨G,F,δ,ds,δ',ok,ev,post⟩:=h
 simp only [evI,ao,af] at ev
 obtain ⟨⟨d,δ1⟩,ea,ev⟩:=ev
 cases d with
 | int j =>
   dsimp only at ev
   split at ev
   . rename_i hj
     cases ev
     refine ⟨G,F,δ,.int j,_,ok,ea,fun v H1 F1 st1 sm1 ok1 r1=>?_⟩
     have r:=da n r1
     unfold Rel at r
     subst r
     exact ⟨j,rfl,hj.1,hj.2,post _ _ _ st1 sm1 ok1 fun _=>yB⟩
   . cases ev
 | _=>cases ev
theorem zF {tg y z:Expr} {a b:E} {p pos:Pos} (na:(!bG a) = true) (nb:(!bG b) = true) (hg:Gl X "range") (hm:X.mg "range" = none) (hy:PE X y (tE X.K cx a)) (hz:PE X z (tE X.K cx b)) (hs:starEach [y,z] X.env = [(false,eval y X.env),(false,eval z X.env)]) (hs2:starEach [z] X.env = [(false,eval z X.env)]) :
 PI X tg (.Call (.Name "range" p) [y,z] [] pos) (tI X.K cx (.rng2 a b)):=by
 refine PI.imp (xB hg hm (eS hy (eS hz gQ hs2) (by rw [hs,hs2])) hs hs2) fun σ H R h=>?_
 obtain ⟨G,F,δ,ds,δ',ok,ev,post⟩:=h
 simp only [evI,ao,af] at ev
 obtain ⟨⟨d,δ1⟩,ea,ev⟩:=ev
 cases d with
 | int i =>
   simp only [ao,af] at ev
   obtain ⟨⟨d2,δ2⟩,eb,ev⟩:=ev
   cases d2 with
   | int j =>
     dsimp only at ev
     split at ev
     . rename_i hj
       cases ev
       have pc:(!bG a || np b) = true:=by rw [na];rfl
       refine two ok ea eb pc fun v u H2 F2 st sm ok2 r1 r2=>?_
       have e1:=da na r1
       have e2:=da nb r2
       unfold Rel at e1 e2
       subst e1;subst e2
       exact ⟨i,j,rfl,hj,post _ _ _ st sm ok2 fun _=>yB⟩
     . cases ev
   | _=>cases ev
 | _=>cases ev
end
end PP
end
section
namespace PP
open PySem L2 PyProof.Rows Builtin.Str
variable [Tbs]
section
variable {X:Cx} {cx:Cl}
end
end PP
end
section
namespace PP
open PySem L2 PyProof.Rows
variable [Tbs]
section
variable {X:Cx} {cx:Cl}
noncomputable def GdK (w:World) (K:PySem.W.Frag) (a:Addr) (D:List (Str × Int)):Prop :=
 KTD.tabLook KTD.flatLooks (fun b=>K.lookup b) a (D.map fun p=>(p.1,PyData.int p.2)) = true/\(D.map (·.1)).Nodup/\KTD.hashesOf (fun b=>K.lookup b) a = D.map fun p=>hashStr w p.1
end
end PP
end
section
namespace PP
open PySem L2 PyProof.Rows
variable [Tbs]
noncomputable def spO (K:PySem.W.Frag) (f:List D->Option D):Sp:=fun vs H Q _=>∃ F ds zs,FD F H/\TF F/\iC H/\aA K H F ds vs/\f ds = some zs/\∀ a u H',Sim H H'->iC H'->H a = none->H' a = some u->dN K H' (fun b=>F b\/b = a) zs u->Q (.ref a) H'
structure Cok (X:Cx) (c:Ck) (cx:Cl) (k:Nat):Prop where
 hN:X.N = c.N
 nd:c.N.Nodup
 vis:∀ x,Vis c.sc x->Vis X.env.scope x
 gl:∀ x,c.sc.names.lookup x = some .globalImplicit->Gl X x
 st:∀ x,L2.Loc c.sc x->L2.Loc X.env.scope x/\(X.fn x = true\/X.env.scope.names.lookup x = some .local)
 kc:∀ x,(c.sc.names.lookup x = some .cell\/c.sc.names.lookup x = some .free)->X.env.kindOf x = some .cell\/X.env.kindOf x = some .free
 calm:X.calm = true
 xe:X.xe = fun _ _=>False
 room:eJ k X.A
 fns:∀ (f:Nat) (x:Str) (ps:List Str),c.fns[f]? = some (x,ps)->∃ a fd,X.mg x = some (.ref a)/\PySem.W.keepIn X.K (.ref a) = true/\Binds X.K fd ps []/\fN X.prog X.w X.K X.mg X.base CX0 k a fd ps (spF X.K (cx.call f))
 fnO:∀ (f:Nat) (x:Str) (ps:List Str),c.fns[f]? = some (x,ps)->∃ a fd,X.mg x = some (.ref a)/\PySem.W.keepIn X.K (.ref a) = true/\Binds X.K fd ps []/\fN X.prog X.w X.K X.mg X.base CX0 k a fd ps (spO X.K (cx.call (f+rX)))
 blt:∀ x,x∈jM->X.mg x = none
 glob:∀ (g:Nat) (x:Str) (d:D),c.gn[g]? = some x->cx.gl[g]? = some d->∃ u v,X.mg x = some u/\RelV v u/\∀ H F,Rel X.K H F d v
 gsome:∀ (g:Nat) (x:Str),c.gn[g]? = some x->∃ d,cx.gl[g]? = some d
 gds:∀ (n:Str) (l:List (Str × Int)),Tbs.gds.lookup n = some l->∃ a,X.mg n = some (.ref a)/\GdK X.w X.K a l
 pos:k = 0->∀ f ds,cx.call f ds = none
theorem zp {sc:Scope} {x:Str} (h:xa sc x = true):Vis sc x:=by
 unfold xa at h
 split at h
 . exact .inl ‹_›
 . exact .inr (.inl ‹_›)
 . exact .inr (.inr ‹_›)
 . cases h
theorem AN {sc:Scope} {x:Str} (h:HL sc x = true):L2.Loc sc x:=by
 unfold HL at h
 split at h
 . exact .inl ‹_›
 . exact .inr ‹_›
 . cases h
theorem HZ {sc:Scope} {x:Str} (h:glB sc x = true):sc.names.lookup x = some .globalImplicit:=by
 unfold glB at h
 split at h
 . assumption
 . cases h
theorem vA {x:Str} (h:AA x = true):(x == ("__debug__":Str)) = false/\(x == ("__classdict__":Str)) = false/\x≠("__name__":Str):=by
 unfold AA at h
 rw [aa,aa] at h
 refine ⟨by simpa using h.1.1,by simpa using h.1.2,?_⟩
 have:=h.2
 intro z
 subst z
 revert this
 decide +kernel
section
variable {X:Cx} {c:Ck} {cx:Cl} {k:Nat}
theorem Cok.name (C:Cok X c cx k) {i:Nat} {x:Str} (h:gk c i x = true):X.N[i]? = some x/\Vis X.env.scope x/\(x == ("__debug__":Str)) = false/\(x == ("__classdict__":Str)) = false:=by
 unfold gk at h
 rw [aa,aa] at h
 obtain ⟨⟨h1,h2⟩,h3⟩:=h
 obtain ⟨n1,n2,n3⟩:=vA h3
 exact ⟨by rw [C.hN];exact of_decide_eq_true h1,C.vis x (zp h2),n1,n2⟩
theorem Cok.to (C:Cok X c cx k) {i:Nat} {x:Str} (h:eX c i x = true):X.N[i]? = some x/\L2.Loc X.env.scope x/\(X.fn x = true\/X.env.scope.names.lookup x = some .local):=by
 unfold eX at h
 rw [aa,aa] at h
 obtain ⟨⟨h1,h2⟩,h3⟩:=h
 obtain ⟨s1,s2⟩:=C.st x (AN h2)
 exact ⟨by rw [C.hN];exact of_decide_eq_true h1,s1,s2⟩
theorem Cok.global (C:Cok X c cx k) {x:Str} (h:eC c x = true):Gl X x/\(x == ("__debug__":Str)) = false/\x≠("__name__":Str):=by
 unfold eC at h
 rw [aa] at h
 obtain ⟨n1,n2,n3⟩:=vA h.2
 exact ⟨C.gl x (HZ h.1),n1,n3⟩
theorem Cok.units (C:Cok X c cx k):X.A.units+200 < cLine:=by have:=C.room.un;omega
theorem Cok.nd' (C:Cok X c cx k):X.N.Nodup:=by rw [C.hN];exact C.nd
noncomputable def mM:List Nat->TGs
 | []=>Ia
 | i::is=>vR (sF i) (mM is)
noncomputable def DY (K:PySem.W.Frag) (n:Nat) (t:TGs):TG:=fun v σ H Q=>∃ a xs,v = .ref a/\(SqT K H a xs\/SqL K H a xs)/\xs.length = n/\t xs σ H Q
theorem jN {prog:Program} {w:World} {A:Around} {E:Value->Shared->Prop} {s:Shared} {env:Env} {elts:List Expr} {x1} {pos:Pos} {t:Addr} {items:Array Value} {Q:Unit->Shared->Prop} (hh:A.handled = none) (ht:s.heap.IsList t items)
 (hn:(assignEach elts env).length = items.size) (hstar:(assignEach elts env).findIdx? (·.1) = none)
 (h:∀ h',Heap.ExtBut s.heap.objs.size s.heap h'->wpAny (model prog w) A (assignInOrder ((assignEach elts env).map (·.2)) items.toList) Q E { s with heap:=h' }) :
 wpAny (model prog w) A (assign (.Tuple elts x1 pos) env (.ref t)) Q E s:=by
 rw [assign_Tuple]
 refine ag (yh ?_)
 unfold unpack
 rw [hn,hstar]
 exact ag (cN (PySem.W.kun_itemsOf hh ht h))
theorem ug {X:Cx} {es:List Expr} {k:Nat} {t:TGs} {n:Nat} {pos:Pos} (hc:X.calm = true) (h:PGs X es t)
 (hn:(assignEach es X.env).length = n:=by rfl) (hst:(assignEach es X.env).findIdx? (·.1) = none:=by rfl):PG X (.Tuple es k pos) (DY X.K n t):=by
 intro pins s σ H v u Q I r hw
 obtain ⟨a,xs,e1,hq,hl,hw⟩:=hw
 rcases hq with hq | hq
 . exact Hb hc h hn hst pins s σ H v u Q I r ⟨a,xs,e1,hq,hl,hw⟩
 . subst e1
   cases r
   obtain ⟨its,rv,pl,hz⟩:=I.list hq
   refine jN (I.ok.hd hc) pl.isList (by simp [hn,<- hl,rv.length]) hst fun h' hx=>?_
   have I1:Inv X pins σ H { s with heap:=h' }:=I.kept (t':=s.toks) fun b o e=>hx b o (aH (aB e)) e
   exact h pins _ σ H xs _ Q I1 (by simpa using rv) hw
noncomputable def gTg (K:PySem.W.Frag):Tg->TG
 | .nm i=>sF i
 | .tp is=>DY K is.length (mM is)
 | .pr i is=>DY K 2 (vR (sF i) (vR (DY K is.length (mM is)) Ia))
theorem ke (C:Cok X c cx k):∀ (is:List Nat) (es:List Expr),En c is es = true->PGs X es (mM is)/\(assignEach es X.env).length = is.length/\(assignEach es X.env).findIdx? (·.1) = none
 | [],es,h=>by
   obtain ⟨rfl,_⟩:=eW h
   exact ⟨vi,rfl,rfl⟩
 | i::is,es,h=>by
   obtain ⟨e,r,rfl,hh⟩:=dc h
   rw [aa] at hh
   obtain ⟨x,p,rfl,h1⟩:=bL hh.1
   obtain ⟨q1,q2,q3⟩:=ke C is r hh.2
   obtain ⟨n1,n2,n3⟩:=C.to h1
   refine ⟨mm (lx C.nd' n1 n2 n3) q1 rfl,?_,?_⟩
   . show (assignEach r X.env).length+1 = _
     rw [q2];rfl
   . show List.findIdx? _ ((false,_)::assignEach r X.env) = none
     rw [List.findIdx?_cons,q3]
     rfl
theorem tY (C:Cok X c cx k) {tg:Tg} {t:Expr} (h:uA c tg t = true):PG X t (gTg X.K tg):=by
 cases tg with
 | nm i =>
   obtain ⟨_,_,rfl,h1⟩:=bL h
   obtain ⟨n1,n2,n3⟩:=C.to h1
   exact lx C.nd' n1 n2 n3
 | tp is =>
   obtain ⟨_,_,_,rfl,h1⟩:=eU h
   obtain ⟨q1,q2,q3⟩:=ke C _ _ h1
   exact ug C.calm q1 q2 q3
 | pr i is =>
   obtain ⟨_,_,_,rfl,h1⟩:=eU h
   obtain ⟨_,_,rfl,h2⟩:=kf h1
   rw [aa] at h2
   obtain ⟨_,_,rfl,h3⟩:=bL h2.1
   obtain ⟨_,_,_,rfl,h4⟩:=eU h2.2
   obtain ⟨n1,n2,n3⟩:=C.to h3
   obtain ⟨q1,q2,q3⟩:=ke C _ _ h4
   exact ug C.calm (mm (lx C.nd' n1 n2 n3) (mm (ug C.calm q1 q2 q3) vi rfl) rfl) rfl rfl
theorem take_set {α:Type} (l:List α) (i n:Nat) (x:α) (h:n<=i):(l.set i x).take n = l.take n:=by
 apply List.ext_getElem?
 intro j
 by_cases hj:j < n
 . rw [cG hj,cG hj,aK (by omega)]
 . rw [cV (by rw [bj];omega),cV (by rw [bj];omega)]
theorem jt {K:PySem.W.Frag} {G:Gh} {H:Hp} {F:Addr->Prop} {Q:L2.St->Hp->Prop}:∀ (is:List Nat) (ds:List D) (xs:List V) (σ:L2.St) (δ:Loc),Ok K G F σ H δ->aA K H F ds xs->is.length = ds.length->is.all (· < δ.length) = true ->
 (∀ σ',Ok K G F σ' H ((is.zip ds).foldl (fun δ p=>δ.set p.1 (.val p.2)) δ)->(∀ n,(is.all fun i=>decide (n<=i)) = true->σ'.take n = σ.take n)->Q σ' H)->mM is xs σ H Q
 | [],ds,xs,σ,δ,ok,r,hl,_,q=>by
   have:ds = []:=du.mp hl.symm
   subst this
   unfold aA at r
   exact ⟨r,q σ ok fun _ _=>rfl⟩
 | i::is,[],xs,σ,δ,ok,r,hl,_,q=>by simp at hl
 | i::is,d::ds,xs,σ,δ,ok,r,hl,ha,q=>by
   unfold aA at r
   obtain ⟨y,ys,rfl,r1,r2⟩:=r
   rw [dH,aa] at ha
   refine ⟨y,ys,rfl,?_⟩
   refine jt is ds ys (σ.set i (some y)) (δ.set i (.val d)) (ok.set (of_decide_eq_true ha.1) r1) r2 (by simpa using hl) ?_ fun σ' o t=>q σ' o fun n hn=>?_
   . rw [bb];exact ha.2
   . rw [dH,aa] at hn
     rw [t n hn.2,take_set _ _ _ _ (of_decide_eq_true hn.1)]
theorem pJ {K:PySem.W.Frag} {G:Gh} {H:Hp} {F:Addr->Prop} {σ:L2.St} {δ δ':Loc} {tg:Tg} {d:D} {v:V} {Q:L2.St->Hp->Prop} (ok:Ok K G F σ H δ) (r:Rel K H F d v) (e:eR δ tg d = some δ') (q:∀ σ',Ok K G F σ' H δ'->(∀ n,xh n tg = true->σ'.take n = σ.take n)->Q σ' H):gTg K tg v σ H Q:=by
 unfold eR at e
 split at e
 . split at e
   . cases e
     exact q _ (ok.set ‹_› r) fun n hn=>take_set _ _ _ _ (of_decide_eq_true hn)
   . cases e
 . split at e
   . rename_i hh
     cases e
     unfold Rel at r
     obtain ⟨a,xs,e1,h1,h2⟩:=r
     exact ⟨a,xs,e1,.inl h1,by rw [h2.length];exact hh.1.symm,jt _ _ _ _ _ ok h2 hh.1 hh.2 q⟩
   . cases e
 . split at e
   . rename_i hh
     cases e
     unfold Rel at r
     obtain ⟨a,xs,e1,h1,h2⟩:=r
     exact ⟨a,xs,e1,.inr h1.b.sq,by rw [h2.length];exact hh.1.symm,jt _ _ _ _ _ ok h2 hh.1 hh.2 q⟩
   . cases e
 . split at e
   . rename_i hh
     cases e
     unfold Rel at r
     obtain ⟨a,xs,e1,h1,h2⟩:=r
     unfold aA at h2
     obtain ⟨y,ys,rfl,r1,r2⟩:=h2
     unfold aA at r2
     obtain ⟨z,zs,rfl,r3,r4⟩:=r2
     unfold aA at r4
     subst r4
     unfold Rel at r3
     obtain ⟨b,ws,e2,h3,h4⟩:=r3
     refine ⟨a,[y,z],e1,.inl h1,rfl,y,[z],rfl,z,[],rfl,b,ws,e2,.inl h3,by rw [h4.length];exact hh.2.1.symm,?_⟩
     refine jt _ _ _ _ _ (ok.set hh.1 r1) h4 hh.2.1 (by rw [bb];exact hh.2.2) fun σ' o t=>⟨rfl,q σ' o fun n hn=>?_⟩
     have hn':=(aa _ _).mp (show (decide (n<=_) && _) = true from hn)
     rw [t n hn'.2,take_set _ _ _ _ (of_decide_eq_true hn'.1)]
   . cases e
 . cases e
theorem Ok.ext {K:PySem.W.Frag} {G:Gh} {H:Hp} {F:Addr->Prop} {σ:L2.St} {δ:Loc} (h:Ok K G F σ H δ) (tl:L2.St):Ok K G F (σ++tl) H (δ++List.replicate tl.length .no):=by
 have low:∀ (j:Nat) (s:Sl),(δ++List.replicate tl.length .no)[j]? = some s->s = .no\/(δ[j]? = some s/\(σ++tl)[j]? = σ[j]?):=fun j s e=>by
  by_cases hj:j < δ.length
  . rw [aM hj] at e
    exact .inr ⟨e,aM (by rw [<- h.len];exact hj)⟩
  . rw [aU (by omega),dv] at e
    split at e
    . cases e;exact .inl rfl
    . cases e
 refine ⟨h.same,h.fd,h.rf,h.rl,h.tf,h.tabs,by rw [az,az,dI,h.len],fun j s e=>?_,fun i j s t a e1 e2 o1 o2 p1 p2=>?_⟩
 . rcases low j s e with rfl | ⟨e1,e2⟩
   . trivial
   . rw [e2];exact h.sl j s e1
 . rcases low i _ e1 with z | ⟨a1,a2⟩
   . subst z;cases o1
   . rcases low j _ e2 with z | ⟨b1,b2⟩
     . subst z;cases o2
     . rw [a2] at p1;rw [b2] at p2
       exact h.apart i j s t a a1 b1 o1 o2 p1 p2
theorem Ok.cut {K:PySem.W.Frag} {G:Gh} {H:Hp} {F:Addr->Prop} {σ:L2.St} {δ:Loc} (h:Ok K G F σ H δ) (n:Nat):Ok K G F (σ.take n) H (δ.take n):=by
 have low:∀ (j:Nat) (s:Sl),(δ.take n)[j]? = some s->δ[j]? = some s/\(σ.take n)[j]? = σ[j]? := fun j s e=>by
  by_cases hj:j < n
  . rw [cG hj] at e
    exact ⟨e,cG hj⟩
  . rw [cV (by rw [bj];omega)] at e;cases e
 refine ⟨h.same,h.fd,h.rf,h.rl,h.tf,h.tabs,by rw [bj,bj,h.len],fun j s e=>?_,fun i j s t a e1 e2 o1 o2 p1 p2=>?_⟩
 . obtain ⟨e1,e2⟩:=low j s e
   rw [e2];exact h.sl j s e1
 . obtain ⟨a1,a2⟩:=low i _ e1
   obtain ⟨b1,b2⟩:=low j _ e2
   rw [a2] at p1;rw [b2] at p2
   exact h.apart i j s t a a1 b1 o1 o2 p1 p2
noncomputable def Gh.and (G:Gh) (D:Addr):Gh:=⟨G.h,fun b=>G.R b\/b = D⟩
theorem Ok.free {K:PySem.W.Frag} {G:Gh} {H:Hp} {F:Addr->Prop} {σ:L2.St} {δ:Loc} {p:Addr} (h:Ok K G F σ H δ) (hp:H p = none):G.free p:=by
 refine ⟨?_,fun z=>?_⟩
 . cases e:G.h p with
   | none=>rfl
   | some o =>
     by_cases t:NT o
     . rw [h.same.nt p o t e] at hp
       cases hp
     . cases o<;>first | (exact absurd trivial t) | skip
       obtain ⟨qs,z⟩:=h.same.tb p _ e
       rw [z] at hp
       cases hp
 . obtain ⟨o,e,_⟩:=h.rl p z
   rw [hp] at e;cases e
theorem Ok.enterO {K:PySem.W.Frag} {G:Gh} {H:Hp} {F:Addr->Prop} {σ:L2.St} {δ:Loc} {p:Addr} (h:Ok K G F σ H δ) (hp:H p = none) {u:HO} (hu:Mo u):Ok K (G.and p) (fun b=>F b\/b = p) σ (upd H p u) δ/\Step G F H (fun b=>F b\/b = p) (upd H p u):=by
 have nF:¬ F p:=oG h.fd hp
 have sm:=cj hp u
 have st:∀ G':Gh,Step G' F H (fun b=>F b\/b = p) (upd H p u):=fun G'=>⟨fun b o _ e _=>sm b o e,fun b z=>by rcases z with z | z;exact .inl z;exact .inr (by rw [z];exact hp),fun b o _ f e=>⟨.inl f,sm b o e⟩,fun b ps e=>⟨ps,sm b _ e⟩⟩
 refine ⟨⟨h.same.trans (.of sm),fun b z=>?_,fun b z=>?_,fun b z=>?_,fun t ht=>.inl (h.tf t ht),h.tabs.keep fun b o _ e=>sm b o e,h.len,fun j s e=>?_,h.apart⟩,st G⟩
 . rcases z with z | z
   . exact h.fd.same sm b z
   . rw [z];exact ⟨u,bt,.inl hu⟩
 . rcases z with z | z
   . exact .inl (h.rf b z)
   . exact .inr z
 . rcases z with z | z
   . exact vc h.rl sm b z
   . rw [z];exact ⟨u,bt,hu⟩
 . exact dh.stay0 h.fd (st G) (fun a v _ f1 _ f3=>⟨.inl f1,sm _ _ f3⟩) (dh.free (G:=G) (G':=G.and p) (fun a f1 f2=>⟨f2.1,fun z=>Or.elim z f2.2 fun w=>nF (w▸f1)⟩) (h.sl j s e))
theorem Ok.enter {K:PySem.W.Frag} {G:Gh} {H:Hp} {F:Addr->Prop} {σ:L2.St} {δ:Loc} {p:Addr} (h:Ok K G F σ H δ) (hp:H p = none) (xs:List V):Ok K (G.and p) (fun b=>F b\/b = p) σ (upd H p (.lst xs)) δ/\Step G F H (fun b=>F b\/b = p) (upd H p (.lst xs)):=h.enterO hp trivial
theorem Ok.pokeO {K:PySem.W.Frag} {G:Gh} {H:Hp} {F:Addr->Prop} {σ:L2.St} {δ:Loc} {p:Addr} {x u:HO} (h:Ok K (G.and p) F σ H δ) (hg:G.free p) (hP:H p = some x) (hx:Mo x) (hu:Mo u):Ok K (G.and p) F σ (upd H p u) δ:=by
 have hF:F p:=h.rf p (.inr rfl)
 have nt:=hx.nt
 have st0:Step g0 F H F (upd H p u):=⟨fun b o _ e n=>by rw [aV (fun z:b = p=>n (by rw [z];exact hF))];exact e,fun b z=>.inl z,fun _ _ r _ _=>r.elim,fun b ps e=>⟨ps,by rw [aV (fun w:b = p=>by rw [w,hP] at e;cases e;exact nt)];exact e⟩⟩
 refine ⟨⟨fun b o t e=>?_,fun b ps e=>?_⟩,fun b z=>?_,h.rf,fun b z=>?_,h.tf,h.tabs.keep fun b o n e=>?_,h.len,fun j s e=>?_,h.apart⟩
 . rw [aV (fun z:b = p=>by have e':G.h b = some o:=e;rw [z,hg.1] at e';cases e')]
   exact h.same.nt b o t e
 . rw [aV (fun z:b = p=>by have e':G.h b = some _:=e;rw [z,hg.1] at e';cases e')]
   exact h.same.tb b ps e
 . by_cases hb:b = p
   . rw [hb];exact ⟨u,bt,.inl hu⟩
   . rw [aV hb];exact h.fd b z
 . by_cases hb:b = p
   . rw [hb];exact ⟨u,bt,hu⟩
   . rw [aV hb];exact h.rl b z
 . rw [aV (fun w:b = p=>by rw [w,hP] at e;cases e;exact n hx)]
   exact e
 . exact dh.stay0 h.fd st0 (fun a v _ f1 f2 f3=>⟨f1,by rw [aV (fun z:a = p=>f2.2 (.inr z))];exact f3⟩) (h.sl j s e)
theorem Ok.poke {K:PySem.W.Frag} {G:Gh} {H:Hp} {F:Addr->Prop} {σ:L2.St} {δ:Loc} {p:Addr} {zs:List V} (h:Ok K (G.and p) F σ H δ) (hg:G.free p) (hP:H p = some (.lst zs)) (xs:List V):Ok K (G.and p) F σ (upd H p (.lst xs)) δ:=h.pokeO hg hP trivial trivial
theorem Ok.leave {K:PySem.W.Frag} {G:Gh} {H:Hp} {F:Addr->Prop} {σ:L2.St} {δ:Loc} {p:Addr} (h:Ok K (G.and p) F σ H δ) (hg:G.free p):Ok K G (fun b=>F b/\b≠p) σ H δ:=by
 have hs:∀ b,(F b/\b≠p)->F b:=fun b z=>z.1
 have tf':TF fun b=>F b/\b≠p:=fun t ht=>⟨h.tf t ht,fun w=>by
  obtain ⟨ps,e,_⟩:=h.tabs t ht
  obtain ⟨o,hP,m⟩:=h.rl p (.inr rfl)
  rw [w,hP] at e
  cases e
  exact m⟩
 refine ⟨h.same,fun b z=>h.fd b z.1,fun b z=>⟨h.rf b (.inl z),fun w=>hg.2 (by rw [<- w];exact z)⟩,fun b z=>h.rl b (.inl z),tf',h.tabs,h.len,fun j s e=>?_,h.apart⟩
 refine ((h.sl j s e).less h.fd hs fun a z za=>?_).free (G:=G.and p) (G':=G) fun b _ z=>⟨z.1,fun w=>z.2 (Or.inl w)⟩
 obtain ⟨a',u,d,e1,f1,f2,_⟩:=dh.ow (h.sl j s e) z
 rw [za] at e1
 cases e1
 exact ⟨f1,fun w=>f2.2 (.inr w)⟩
theorem Ok.keep {K:PySem.W.Frag} {G:Gh} {H:Hp} {F:Addr->Prop} {σ:L2.St} {δ:Loc} {p:Addr} (h:Ok K (G.and p) F σ H δ):Ok K G F σ H δ :=
 ⟨h.same,h.fd,fun b z=>h.rf b (.inl z),fun b z=>h.rl b (.inl z),h.tf,h.tabs,h.len,fun j s e=>(h.sl j s e).free (G:=G.and p) (G':=G) fun b _ z=>⟨z.1,fun w=>z.2 (Or.inl w)⟩,h.apart⟩
end
end PP
end
section
namespace PP
open PySem L2 PyProof.Rows
variable [Tbs]
section
variable {K:PySem.W.Frag} {cx:Cl}
noncomputable def sN (cx:Cl) (k:Nat) (tg:Tg) (ifs:Eo) (elt:E):D->Loc->Option (Option D × Loc):=fun x δ0=>do
 let δ2 <- eR (δ0++List.replicate k .no) tg x
 let (b,δ3) <- evG cx ifs δ2
 if b then do
  let (y,δ4) <- evE cx elt δ3
  return (some y,δ4.take δ0.length)
 else return (none,δ3.take δ0.length)
theorem Ei {k:Nat} {tg:Tg} {src:It} {ifs:Eo} {elt:E} {δ δ':Loc} {d:D} (ev:evE cx (.comp k tg src ifs elt) δ = some (d,δ')) :
 ∃ ds δ1 ys,evI cx src δ = some (ds,δ1)/\jJ (sN cx k tg ifs elt) ds δ1 = some (ys,δ')/\ys.length<=sizeLine/\d = .lst ys:=by
 simp only [evE,ao,af] at ev
 obtain ⟨⟨ds,δ1⟩,ea,⟨ys,δ2⟩,eb,ev⟩:=ev
 split at ev
 . cases ev
   exact ⟨ds,δ1,ys,ea,eb,‹_›,rfl⟩
 . cases ev
theorem xS {k:Nat} {tg:Tg} {ifs:Eo} {elt:E} {x:D} {δ0 δ1:Loc} {o:Option D} (h:sN cx k tg ifs elt x δ0 = some (o,δ1)):∃ δ2 b δ3,eR (δ0++List.replicate k .no) tg x = some δ2/\evG cx ifs δ2 = some (b,δ3) /\
 ((b = true/\∃ y δ4,evE cx elt δ3 = some (y,δ4)/\o = some y/\δ1 = δ4.take δ0.length)\/(b = false/\o = none/\δ1 = δ3.take δ0.length)):=by
 unfold sN at h
 simp only [ao,af] at h
 obtain ⟨δ2,e1,⟨b,δ3⟩,e2,h⟩:=h
 refine ⟨δ2,b,δ3,e1,e2,?_⟩
 cases b with
 | true =>
   simp only [if_true,af] at h
   obtain ⟨⟨y,δ4⟩,e3,h⟩:=h
   cases h
   exact .inl ⟨rfl,y,δ4,e3,rfl,rfl⟩
 | false =>
   simp only [ae,if_false] at h
   cases h
   exact .inr ⟨rfl,rfl,rfl⟩
theorem uw {f:D->Loc->Option (Option D × Loc)} {x:D} {xs ys:List D} {δ δ':Loc} (h:jJ f (x::xs) δ = some (ys,δ')):∃ o δ1 zs,f x δ = some (o,δ1)/\jJ f xs δ1 = some (zs,δ')/\ys = (match o with | some y=>y::zs | none=>zs):=by
 unfold jJ at h
 simp only [ao,af] at h
 obtain ⟨⟨o,δ1⟩,e1,⟨zs,δ2⟩,e2,h⟩:=h
 cases h
 exact ⟨o,δ1,zs,e1,e2,rfl⟩
theorem Step.sub {G G':Gh} {F F':Addr->Prop} {H H':Hp} (h:Step G' F H F' H') (hs:∀ b,G.R b->G'.R b):Step G F H F' H':=⟨h.keep,h.grow,fun b o r=>h.res b o (hs b r),h.tb⟩
theorem mO:∀ (ps:List (Nat × D)) (δ:Loc),(ps.foldl (fun δ p=>δ.set p.1 (Sl.val p.2)) δ).length = δ.length:=by
 intro ps
 induction ps with
 | nil=>intro δ;rfl
 | cons a r ih=>intro δ;rw [eO,ih,bb]
theorem xv {δ δ':Loc} {tg:Tg} {d:D} (es:eR δ tg d = some δ'):δ'.length = δ.length:=by
 unfold eR at es
 split at es
 . split at es
   . cases es;rw [bb]
   . cases es
 . split at es
   . cases es;rw [mO]
   . cases es
 . split at es
   . cases es;rw [mO]
   . cases es
 . split at es
   . cases es;rw [mO,bb]
   . cases es
 . cases es
theorem uv {G:Gh} {F1:Addr->Prop} {H1:Hp} {σ:L2.St} {J:L2.It} {ds ys:List D} {δ1 δ2:Loc} {k:Nat} {tg:Tg} {ifs:Eo} {elt:E} {p:Addr} {Q:L2.St->Hp->Prop} (n:(!bG elt) = true) (hge:xh σ.length tg = true)
 (ok1:Ok K G F1 σ H1 δ1) (wk:Wk K G F1 H1 J ds) (hp:H1 p = none) (ev:jJ (sN cx k tg ifs elt) ds δ1 = some (ys,δ2)) (hz:ys.length<=sizeLine)
 (q:∀ σ' H2 F2 xs,Ok K (G.and p) F2 σ H2 δ2->H2 p = some (.lst xs)->aA K H2 F2 ys xs->Step G F1 H1 F2 H2->((npO ifs && np elt) = true->Sim H1 H2)->Q σ' H2) :
 tLp J (gTg K tg) (tG K cx ifs) (zC p (tE K cx elt)) (σ++List.replicate k none) (upd H1 p (.lst [])) Q:=by
 have hg:=ok1.free hp
 obtain ⟨ok2,st2⟩:=ok1.enter hp []
 have hFs:∀ b,G.R b->(G.and p).R b:=fun b z=>.inl z
 refine ⟨fun i m σc Hc=>∃ F' δi zs xs yi,m = ds.length - i/\i<=ds.length/\(∃ tl:L2.St,σc = σ++tl/\tl.length = k)/\Ok K (G.and p) F' σ Hc δi/\jJ (sN cx k tg ifs elt) (ds.drop i) δi = some (zs,δ2)/\yi++zs = ys/\Hc p = some (.lst xs)/\aA K Hc F' yi xs/\Step G F1 H1 F' Hc /\
  ((npO ifs && np elt) = true->Sim H1 Hc),⟨ds.length,fun b=>F1 b\/b = p,δ1,ys,[],[],by simp,bA _,⟨_,rfl,by simp⟩,ok2,ev,rfl,bt,aA.nil,st2,fun _=>.of (cj hp _)⟩,?_⟩
 rintro i m σc Hc ⟨F',δi,zs,xs,yi,rfl,hi,⟨tl,rfl,htl⟩,ok,el,ey,eD,rl,st,sm⟩
 have hF:F' p:=ok.rf p (.inr rfl)
 by_cases hlt:i < ds.length
 . obtain ⟨d,hd⟩:∃ d,ds[i]? = some d:=⟨ds[i],by simp [hlt]⟩
   obtain ⟨go,yl⟩:=(wk F' Hc st ok.fd i).1 d hd
   refine .inr ⟨go,fun x H3 hy=>?_⟩
   obtain ⟨e3,rx⟩:=yl x H3 hy
   subst e3
   have edr:ds.drop i = d::ds.drop (i+1):=by
    rw [en hlt]
    congr 1
    rw [ax hlt] at hd
    exact aX hd
   rw [edr] at el
   obtain ⟨o,δ5,zs',ef,el',ez⟩:=uw el
   obtain ⟨δ6,b,δ7,es,eg,alt⟩:=xS ef
   have okx:Ok K (G.and p) F' (σ++tl) H3 (δi++List.replicate k .no):=by rw [<- htl];exact ok.ext tl
   refine pJ okx rx es fun σ2 ok6 htake=>?_
   have t2:σ2.take σ.length = σ:=by rw [htake _ hge,List.take_left'];rfl
   have l2:σ2.length = σ.length+k:=by
    have a1:=okx.len
    have a2:=ok6.len
    have e1:=xv es
    have e2:(σ++tl).length = σ.length+k:=by rw [az,htl]
    omega
   have dl:δi.length = σ.length:=ok.len
   have tail:∃ tl':L2.St,σ2 = σ++tl'/\tl'.length = k:=by
    refine ⟨σ2.drop σ.length,?_,by rw [fA];omega⟩
    conv=>lhs;rw [<- iO σ.length σ2,t2]
   refine ⟨G.and p,F',δ6,b,δ7,ok6,eg,fun H7 F7 st7 sm7 ok7=>?_⟩
   have keepD:∀ {F8:Addr->Prop} {H8:Hp},Step (G.and p) F' H3 F8 H8->H8 p = some (.lst xs):=fun s8=>(s8.res p _ (.inr rfl) hF eD).2
   rcases alt with ⟨rfl,y,δ8,ee,rfl,rfl⟩ | ⟨rfl,rfl,rfl⟩
   . refine JQ ?_
     refine ⟨G.and p,F7,δ7,y,δ8,ok7,ee,fun u H8 F8 st8 sm8 ok8 r8=>?_⟩
     have s78:=st7.trans st8
     have eD8:=keepD s78
     have ry:=da n r8
     have rl8:aA K H8 F8 yi xs:=aA.step ok.fd s78 yi xs rl
     have hF8:F8 p:=ok8.rf p (.inr rfl)
     have pk:Step g0 F8 H8 F8 (upd H8 p (.lst (xs++[u]))):=⟨fun b o _ e nf=>by rw [aV (fun z:b = p=>nf (by rw [z];exact hF8))];exact e,fun b z=>.inl z,fun _ _ r _ _=>r.elim,fun b ps e=>⟨ps,by rw [aV (fun w:b = p=>by rw [w,eD8] at e;cases e)];exact e⟩⟩
     subst ez
     have hyl:yi.length < sizeLine:=by
      have:=congrArg List.length ey
      rw [az] at this
      simp only [aw] at this
      omega
     refine ⟨xs,eD8,by rw [rl8.length];exact hyl,ds.length - (i+1),by omega,F8,δ8.take δi.length,zs',xs++[u],yi++[y],rfl,hlt,tail,?_,el',by rw [BO];exact ey,bt,?_,?_,fun z=>?_⟩
     . have:=(ok8.poke hg eD8 (xs++[u])).cut δi.length
       rw [dl,t2] at this
       rw [dl]
       exact this
     . exact aA.step ok8.fd pk _ _ (rl8.append (aA.one ry))
     . have s1:=st.trans (s78.sub hFs)
       refine ⟨fun b o t e nf=>?_,s1.grow,fun b o r f e=>?_,fun b ps e=>?_⟩
       . rw [aV (fun w:b = p=>by rw [w,hp] at e;cases e)]
         exact s1.keep b o t e nf
       . obtain ⟨a1,a2⟩:=s1.res b o r f e
         refine ⟨a1,?_⟩
         rw [aV (fun w:b = p=>by rw [w,hp] at e;cases e)]
         exact a2
       . rw [aV (fun w:b = p=>by rw [w,hp] at e;cases e)]
         exact s1.tb b ps e
     . have z':=z
       rw [aa] at z'
       have s1:=((sm z).trans (sm7 z'.1)).trans (sm8 z'.2)
       refine ⟨fun b o t e=>?_,fun b ps e=>?_⟩
       . rw [aV (fun w:b = p=>by rw [w,hp] at e;cases e)]
         exact s1.nt b o t e
       . rw [aV (fun w:b = p=>by rw [w,hp] at e;cases e)]
         exact s1.tb b ps e
   . refine JR ?_
     subst ez
     refine ⟨ds.length - (i+1),by omega,F7,δ7.take δi.length,_,xs,yi,rfl,hlt,tail,?_,el',ey,keepD st7,aA.step ok.fd st7 yi xs rl,st.trans (st7.sub hFs),fun z=>?_⟩
     . have:=ok7.cut δi.length
       rw [dl,t2] at this
       rw [dl]
       exact this
     . have z':=z
       rw [aa] at z'
       exact (sm z).trans (sm7 z'.1)
 . have hi':i = ds.length:=by omega
   subst hi'
   rw [lJ] at el
   cases el
   rw [cP] at ey
   subst ey
   exact .inl ⟨(wk F' Hc st ok.fd ds.length).2 rfl,q _ Hc F' xs ok eD rl st sm⟩
end
end PP
end
section
namespace PP
open PySem
section
variable (cx:Cl)
noncomputable def wE (e:E) (δ:Loc) (Q:D->Loc->Prop):Prop:=∃ d δ',evE cx e δ = some (d,δ')/\Q d δ'
noncomputable def wT (e:E) (δ:Loc) (Q:Bool->Loc->Prop):Prop:=∃ d δ',evT cx e δ = some (d,δ')/\Q d δ'
noncomputable def wEs (e:Es) (δ:Loc) (Q:List D->Loc->Prop):Prop:=∃ d δ',gY cx e δ = some (d,δ')/\Q d δ'
noncomputable def wO (e:Eo) (δ:Loc) (Q:Option Int->Loc->Prop):Prop:=∃ d δ',evO cx e δ = some (d,δ')/\Q d δ'
noncomputable def wG (e:Eo) (δ:Loc) (Q:Bool->Loc->Prop):Prop:=∃ d δ',evG cx e δ = some (d,δ')/\Q d δ'
noncomputable def wI (e:It) (δ:Loc) (Q:List D->Loc->Prop):Prop:=∃ d δ',evI cx e δ = some (d,δ')/\Q d δ'
noncomputable def wS (s:S) (δ:Loc) (Q:Out->Prop):Prop:=∃ o,evS cx s δ = some o/\Q o
noncomputable def wSs (s:Ss) (δ:Loc) (Q:Out->Prop):Prop:=∃ o,dO cx s δ = some o/\Q o
noncomputable def wTg (δ:Loc) (tg:Tg) (d:D) (Q:Loc->Prop):Prop:=∃ δ',eR δ tg d = some δ'/\Q δ'
noncomputable def wOp (op:Op) (x y:D) (Q:D->Prop):Prop:=∃ z,opD op x y = some z/\Q z
noncomputable def gf (op:Cop) (x y:D) (Q:Bool->Prop):Prop:=∃ z,ux op x y = some z/\Q z
noncomputable def gE (f:Blt) (ds:List D) (Q:D->Prop):Prop:=∃ z,hX f ds = some z/\Q z
noncomputable def zi (f:Nat) (ds:List D) (Q:D->Prop):Prop:=∃ z,cx.call f ds = some z/\Q z
noncomputable def tK (δ:Loc) (i:Nat) (Q:D->Prop):Prop:=∃ z,PP.get δ i = some z/\Q z
noncomputable def wIx (x y:D) (Q:D->Prop):Prop:=∃ z,ixD x y = some z/\Q z
noncomputable def wSl (x:D) (lo hi:Option Int) (Q:D->Prop):Prop:=∃ z,slD x lo hi = some z/\Q z
noncomputable def wTv (x:D) (Q:Bool->Prop):Prop:=∃ z,tv x = some z/\Q z
noncomputable def wItems (x:D) (Q:List D->Prop):Prop:=∃ z,items x = some z/\Q z
noncomputable def Jg (k:Nat) (tg:Tg) (ifs:Eo) (elt:E):D->Loc->Option (Option D × Loc):=fun x δ0=>do
 let δ2 <- eR (δ0++List.replicate k .no) tg x
 let (b,δ3) <- evG cx ifs δ2
 if b then do
  let (y,δ4) <- evE cx elt δ3
  return (some y,δ4.take δ0.length)
 else return (none,δ3.take δ0.length)
noncomputable def lN (k:Nat) (tg:Tg) (ifs:Eo) (elt:E) (ds:List D) (δ:Loc) (Q:List D->Loc->Prop):Prop:=∃ ys δ',jJ (Jg cx k tg ifs elt) ds δ = some (ys,δ')/\Q ys δ'
noncomputable def Kc (tg:Tg) (body:Ss):D->Loc->Option Out:=fun x δ0=>match eR δ0 tg x with
 | some δ2=>dO cx body δ2
 | none=>none
noncomputable def tL (tg:Tg) (body:Ss) (ds:List D) (δ:Loc) (Q:Out->Prop):Prop:=∃ o,forL (Kc cx tg body) ds δ = some o/\Q o
end
section
variable {α β γ:Type} {P P':α->Loc->Prop} {R R':α->Prop} {Q:β->Loc->Prop} {S:γ->Prop} {o:Option (α × Loc)} {u:Option α} {f:α × Loc->Option (β × Loc)} {g:α->Option (β × Loc)} {f':α × Loc->Option γ} {g':α->Option γ} {d:β} {r:γ} {δ:Loc} {c:Prop} [Decidable c]
theorem yb:(∃ r,o.bind f' = some r/\S r)↔∃ x δ1,o = some (x,δ1)/\∃ r,f' (x,δ1) = some r/\S r:=by
 cases o with
 | none=>exact ⟨fun ⟨_,e,_⟩=>(by cases e),fun ⟨_,_,e,_⟩=>(by cases e)⟩
 | some p=>exact ⟨fun h=>⟨p.1,p.2,rfl,h⟩,fun ⟨_,_,e,h⟩=>by cases e;exact h⟩
theorem ys:(∃ r,u.bind g' = some r/\S r)↔∃ x,u = some x/\∃ r,g' x = some r/\S r:=by
 cases u with
 | none=>exact ⟨fun ⟨_,e,_⟩=>(by cases e),fun ⟨_,e,_⟩=>(by cases e)⟩
 | some p=>exact ⟨fun h=>⟨p,rfl,h⟩,fun ⟨_,e,h⟩=>by cases e;exact h⟩
theorem yr:(∃ r',some r = some r'/\S r')↔S r:=⟨fun ⟨_,e,h⟩=>(by cases e;exact h),fun h=>⟨_,rfl,h⟩⟩
theorem yi:(∃ r',(if c then some r else none) = some r'/\S r')↔c/\S r:=by
 by_cases h:c
 . rw [if_pos h];exact yr.trans ⟨fun q=>⟨h,q⟩,fun q=>q.2⟩
 . rw [if_neg h];exact ⟨fun ⟨_,e,_⟩=>(by cases e),fun q=>absurd q.1 h⟩
theorem yn {A:Prop} (h:¬ A):(∃ r',(none:Option γ) = some r'/\S r')↔A:=⟨fun ⟨_,e,_⟩=>(by cases e),fun q=>absurd q h⟩
theorem xq {o:Option (β × Loc)}:(∃ d δ',o = some (d,δ')/\Q d δ')↔∃ r,o = some r/\Q r.1 r.2:=⟨fun ⟨_,_,e,q⟩=>⟨_,e,q⟩,fun ⟨r,e,q⟩=>⟨r.1,r.2,e,q⟩⟩
theorem xb:(∃ d δ',o.bind f = some (d,δ')/\Q d δ')↔∃ x δ1,o = some (x,δ1)/\∃ d δ',f (x,δ1) = some (d,δ')/\Q d δ':=xq.trans (yb.trans ⟨fun ⟨x,y,e,h⟩=>⟨x,y,e,xq.mpr h⟩,fun ⟨x,y,e,h⟩=>⟨x,y,e,xq.mp h⟩⟩)
theorem x1:(∃ d δ',u.bind g = some (d,δ')/\Q d δ')↔∃ x,u = some x/\∃ d δ',g x = some (d,δ')/\Q d δ':=xq.trans (ys.trans ⟨fun ⟨x,e,h⟩=>⟨x,e,xq.mpr h⟩,fun ⟨x,e,h⟩=>⟨x,e,xq.mp h⟩⟩)
theorem xr:(∃ d' δ',some (d,δ) = some (d',δ')/\Q d' δ')↔Q d δ:=xq.trans yr
theorem xi:(∃ d' δ',(if c then some (d,δ) else none) = some (d',δ')/\Q d' δ')↔c/\Q d δ:=xq.trans yi
theorem xn {A:Prop} (h:¬ A):(∃ d' δ',(none:Option (β × Loc)) = some (d',δ')/\Q d' δ')↔A:=xq.trans (yn h)
theorem xc (h:∀ x δ,P x δ↔P' x δ):(∃ x δ1,o = some (x,δ1)/\P x δ1)↔∃ x δ1,o = some (x,δ1)/\P' x δ1:=⟨fun ⟨x,δ,e,p⟩=>⟨x,δ,e,(h x δ).mp p⟩,fun ⟨x,δ,e,p⟩=>⟨x,δ,e,(h x δ).mpr p⟩⟩
theorem xd (h:∀ x,R x↔R' x):(∃ x,u = some x/\R x)↔∃ x,u = some x/\R' x:=⟨fun ⟨x,e,p⟩=>⟨x,e,(h x).mp p⟩,fun ⟨x,e,p⟩=>⟨x,e,(h x).mpr p⟩⟩
end
theorem Ea {b:Bool} {P:Bool->Prop}:(∃ k,D.bl b = D.bl k/\P k)↔P b:=⟨fun ⟨_,e,q⟩=>by cases e;exact q,fun q=>⟨_,rfl,q⟩⟩
theorem oT {b:Int} {P:Int->Prop}:(∃ k,D.int b = D.int k/\P k)↔P b:=⟨fun ⟨_,e,q⟩=>by cases e;exact q,fun q=>⟨_,rfl,q⟩⟩
theorem Bl {b:List D} {P:List D->Prop}:(∃ k,D.lst b = D.lst k/\P k)↔P b:=⟨fun ⟨_,e,q⟩=>by cases e;exact q,fun q=>⟨_,rfl,q⟩⟩
section
variable {cx:Cl} {δ:Loc}
theorem FF {i:Nat} {Q:D->Loc->Prop}:wE cx (.var i) δ Q↔∃ d,Bg δ i = some d/\Q d (demote δ i):=x1.trans (xd fun _=>xr)
theorem Jc {i:Nat} {Q:D->Loc->Prop}:wE cx (.pk i) δ Q↔tK δ i fun d=>Q d δ:=x1.trans (xd fun _=>xr)
theorem Cn {i:Nat} {Q:D->Loc->Prop}:wE cx (.glob i) δ Q↔∃ d,cx.gl[i]? = some d/\Q d δ:=x1.trans (xd fun _=>xr)
theorem tM {i:Int} {Q:D->Loc->Prop}:wE cx (.int i) δ Q↔Q (.int i) δ:=xr
theorem Jf {i:Bool} {Q:D->Loc->Prop}:wE cx (.bl i) δ Q↔Q (.bl i) δ:=xr
theorem FJ {Q:D->Loc->Prop}:wE cx .non δ Q↔Q .non δ:=xr
theorem FH {i:Str} {Q:D->Loc->Prop}:wE cx (.str i) δ Q↔Q (.str i) δ:=xr
theorem FQ {op:Op} {a b:E} {Q:D->Loc->Prop}:wE cx (.bin op a b) δ Q↔wE cx a δ fun x δ1=>wE cx b δ1 fun y δ2=>wOp op x y fun z=>Q z δ2:=xb.trans (xc fun _ _=>xb.trans (xc fun _ _=>x1.trans (xd fun _=>xr)))
theorem FO {op:Cop} {a b:E} {Q:D->Loc->Prop}:wE cx (.cmp op a b) δ Q↔wE cx a δ fun x δ1=>wE cx b δ1 fun y δ2=>gf op x y fun z=>Q (.bl z) δ2:=xb.trans (xc fun _ _=>xb.trans (xc fun _ _=>x1.trans (xd fun _=>xr)))
theorem tw {op:Cop} {a b:E} {Q:Bool->Loc->Prop}:wT cx (.cmp op a b) δ Q↔wE cx a δ fun x δ1=>wE cx b δ1 fun y δ2=>gf op x y fun z=>Q z δ2:=xb.trans (xc fun _ _=>xb.trans (xc fun _ _=>x1.trans (xd fun _=>xr)))
theorem FR {a b:E} {Q:D->Loc->Prop}:wE cx (.and a b) δ Q↔wE cx a δ fun x δ1=>∃ k,x = .bl k/\if k = true then wE cx b δ1 Q else Q (.bl false) δ1:=xb.trans (xc fun x _=>by
 cases x with
 | bl k=>refine Iff.trans ?_ Ea.symm;cases k;exact xr;exact aY
 | _=>exact xn fun ⟨_,e,_⟩=>by cases e)
theorem Jd {a b:E} {Q:D->Loc->Prop}:wE cx (.or a b) δ Q↔wE cx a δ fun x δ1=>∃ k,x = .bl k/\if k = true then Q (.bl true) δ1 else wE cx b δ1 Q:=xb.trans (xc fun x _=>by
 cases x with
 | bl k=>refine Iff.trans ?_ Ea.symm;cases k;exact aY;exact xr
 | _=>exact xn fun ⟨_,e,_⟩=>by cases e)
theorem FI {a:E} {Q:D->Loc->Prop}:wE cx (.not a) δ Q↔wE cx a δ fun x δ1=>∃ k,x = .bl k/\Q (.bl (!k)) δ1:=xb.trans (xc fun x _=>by
 cases x with
 | bl k=>refine Iff.trans ?_ Ea.symm;exact xr
 | _=>exact xn fun ⟨_,e,_⟩=>by cases e)
theorem FK {a:E} {Q:D->Loc->Prop}:wE cx (.neg a) δ Q↔wE cx a δ fun x δ1=>∃ i,x = .int i/\Q (.int (-i)) δ1:=xb.trans (xc fun x _=>by
 cases x with
 | int k=>refine Iff.trans ?_ oT.symm;exact xr
 | _=>exact xn fun ⟨_,e,_⟩=>by cases e)
theorem Fm {a b:E} {Q:Bool->Loc->Prop}:wT cx (.and a b) δ Q↔wT cx a δ fun k δ1=>if k = true then wT cx b δ1 Q else Q false δ1:=xb.trans (xc fun k _=>by cases k;exact xr;exact aY)
theorem EA {a b:E} {Q:Bool->Loc->Prop}:wT cx (.or a b) δ Q↔wT cx a δ fun k δ1=>if k = true then Q true δ1 else wT cx b δ1 Q:=xb.trans (xc fun k _=>by cases k;exact aY;exact xr)
theorem Fj {a:E} {Q:Bool->Loc->Prop}:wT cx (.not a) δ Q↔wT cx a δ fun k δ1=>Q (!k) δ1:=xb.trans (xc fun _ _=>xr)
theorem Fi {i:Nat} {Q:Bool->Loc->Prop}:wT cx (.var i) δ Q↔tK δ i fun d=>wTv d fun b=>Q b δ:=x1.trans (xd fun _=>x1.trans (xd fun _=>xr))
theorem IX {i:Nat} {Q:Bool->Loc->Prop}:wT cx (.pk i) δ Q↔tK δ i fun d=>wTv d fun b=>Q b δ:=x1.trans (xd fun _=>x1.trans (xd fun _=>xr))
theorem BZ {f:Nat} {es:Es} {Q:Bool->Loc->Prop}:wT cx (.call f es) δ Q↔wEs cx es δ fun ds δ1=>zi cx f ds fun d=>wTv d fun b=>Q b δ1:=xb.trans (xc fun _ _=>x1.trans (xd fun _=>x1.trans (xd fun _=>xr)))
theorem Fl {f:Blt} {es:Es} {Q:Bool->Loc->Prop}:wT cx (.blt f es) δ Q↔wEs cx es δ fun ds δ1=>gE f ds fun d=>wTv d fun b=>Q b δ1:=xb.trans (xc fun _ _=>x1.trans (xd fun _=>x1.trans (xd fun _=>xr)))
theorem FN {c a b:E} {Q:D->Loc->Prop}:wE cx (.ite c a b) δ Q↔wT cx c δ fun k δ1=>if k = true then wE cx a δ1 Q else wE cx b δ1 Q:=xb.trans (xc fun k _=>by cases k<;>exact aY)
theorem FG {es:Es} {Q:D->Loc->Prop}:wE cx (.tup es) δ Q↔wEs cx es δ fun ds δ1=>ds.length<=sizeLine/\Q (.tup ds) δ1:=xb.trans (xc fun _ _=>xi)
theorem FL {es:Es} {Q:D->Loc->Prop}:wE cx (.lst es) δ Q↔wEs cx es δ fun ds δ1=>ds.length<=sizeLine/\Q (.lst ds) δ1:=xb.trans (xc fun _ _=>xi)
theorem Je {a b:E} {Q:D->Loc->Prop}:wE cx (.ix a b) δ Q↔wE cx a δ fun x δ1=>wE cx b δ1 fun y δ2=>wIx x y fun z=>Q z δ2:=xb.trans (xc fun _ _=>xb.trans (xc fun _ _=>x1.trans (xd fun _=>xr)))
theorem Jb {a:E} {lo hi:Eo} {Q:D->Loc->Prop}:wE cx (.sl a lo hi) δ Q↔wE cx a δ fun x δ1=>wO cx lo δ1 fun l δ2=>wO cx hi δ2 fun h δ3=>wSl x l h fun z=>Q z δ3:=xb.trans (xc fun _ _=>xb.trans (xc fun _ _=>xb.trans (xc fun _ _=>x1.trans (xd fun _=>xr))))
theorem Cp {f:Nat} {es:Es} {Q:D->Loc->Prop}:wE cx (.call f es) δ Q↔wEs cx es δ fun ds δ1=>zi cx f ds fun z=>Q z δ1:=xb.trans (xc fun _ _=>x1.trans (xd fun _=>xr))
theorem FP {f:Blt} {es:Es} {Q:D->Loc->Prop}:wE cx (.blt f es) δ Q↔wEs cx es δ fun ds δ1=>gE f ds fun z=>Q z δ1:=xb.trans (xc fun _ _=>x1.trans (xd fun _=>xr))
theorem Cj {Q:List D->Loc->Prop}:wEs cx .nil δ Q↔Q [] δ:=xr
theorem zd {e:E} {es:Es} {Q:List D->Loc->Prop}:wEs cx (.cons e es) δ Q↔wE cx e δ fun x δ1=>wEs cx es δ1 fun xs δ2=>Q (x::xs) δ2:=xb.trans (xc fun _ _=>xb.trans (xc fun _ _=>xr))
theorem IY {Q:Option Int->Loc->Prop}:wO cx .no δ Q↔Q none δ:=xr
theorem Fx {e:E} {Q:Option Int->Loc->Prop}:wO cx (.yes e) δ Q↔wE cx e δ fun x δ1=>∃ i,x = .int i/\Q (some i) δ1:=xb.trans (xc fun x _=>by
 cases x with
 | int k=>refine Iff.trans ?_ oT.symm;exact xr
 | _=>exact xn fun ⟨_,e,_⟩=>by cases e)
theorem uN {Q:Bool->Loc->Prop}:wG cx .no δ Q↔Q true δ:=xr
theorem FE {e:E} {Q:Bool->Loc->Prop}:wG cx (.yes e) δ Q↔wT cx e δ Q:=aY
theorem FA {e:E} {Q:List D->Loc->Prop}:wI cx (.rng e) δ Q↔wE cx e δ fun x δ1=>∃ j,x = .int j/\(-(2 ^ 62)<=j/\j < 2 ^ 62)/\Q (nL 0 j.toNat) δ1:=xb.trans (xc fun x _=>by
 cases x with
 | int k=>refine Iff.trans ?_ oT.symm;exact xi
 | _=>exact xn fun ⟨_,e,_⟩=>by cases e)
theorem Ci {a b:E} {Q:List D->Loc->Prop}:wI cx (.rng2 a b) δ Q↔wE cx a δ fun x δ1=>wE cx b δ1 fun y δ2=>∃ i j,x = .int i/\y = .int j/\(-(2 ^ 62)<=i/\i < 2 ^ 62/\-(2 ^ 62)<=j/\j < 2 ^ 62)/\Q (nL i (j - i).toNat) δ2:=by
 unfold wI wE
 simp only [evI,ao,af,Prod.exists]
 constructor
 . rintro ⟨d,δ',⟨x,δ1,h1,e⟩,q⟩
   refine ⟨x,δ1,h1,?_⟩
   split at e
   . rename_i h
     cases h
     simp only [af,Prod.exists] at e
     obtain ⟨y,δ2,h2,e⟩:=e
     refine ⟨y,δ2,h2,?_⟩
     split at e
     . rename_i h
       cases h
       split at e
       . cases e;exact ⟨_,_,rfl,rfl,‹_›,q⟩
       . cases e
     . cases e
   . cases e
 . rintro ⟨x,δ1,h1,y,δ2,h2,i,j,rfl,rfl,h,q⟩
   refine ⟨_,_,⟨_,_,h1,?_⟩,q⟩
   simp only [af,Prod.exists]
   exact ⟨_,_,h2,by dsimp only;rw [if_pos h]⟩
theorem Ja {e:E} {Q:List D->Loc->Prop}:wI cx (.sq e) δ Q↔wE cx e δ fun x δ1=>wItems x fun ds=>Q ds δ1:=xb.trans (xc fun _ _=>x1.trans (xd fun _=>xr))
theorem Co {k:Nat} {tg:Tg} {src:It} {ifs:Eo} {elt:E} {Q:D->Loc->Prop}:wE cx (.comp k tg src ifs elt) δ Q↔wI cx src δ fun ds δ1=>lN cx k tg ifs elt ds δ1 fun ys δ2=>ys.length<=sizeLine/\Q (.lst ys) δ2:=xb.trans (xc fun _ _=>xb.trans (xc fun _ _=>xi))
theorem fO {k:Nat} {tg:Tg} {ifs:Eo} {elt:E} {Q:List D->Loc->Prop}:lN cx k tg ifs elt [] δ Q↔Q [] δ:=xr
theorem gO {k:Nat} {tg:Tg} {ifs:Eo} {elt:E} {x:D} {xs:List D} {Q:List D->Loc->Prop}:lN cx k tg ifs elt (x::xs) δ Q↔wTg (δ++List.replicate k .no) tg x fun δ2=>wG cx ifs δ2 fun b δ3 =>
 if b = true then wE cx elt δ3 fun y δ4=>lN cx k tg ifs elt xs (δ4.take δ.length) fun ys δ5=>Q (y::ys) δ5 else lN cx k tg ifs elt xs (δ3.take δ.length) Q:=xb.trans (x1.trans (xd fun _=>xb.trans (xc fun b _=>by cases b;exact xr.trans (xb.trans (xc fun _ _=>xr));exact xb.trans (xc fun _ _=>xr.trans (xb.trans (xc fun _ _=>xr))))))
end
end PP
end
section
namespace PP
open PySem
section
variable (cx:Cl)
noncomputable def qU (ss:Ss) (Q:Out->Prop):Out->Prop
 | .nx δ=>wSs cx ss δ Q
 | .rt d δ=>Q (.rt d δ)
 | .bk δ=>Q (.bk δ)
 | .ct δ=>Q (.ct δ)
 | .ro d δ=>Q (.ro d δ)
end
noncomputable def mF (next:Loc->Prop) (Q:Out->Prop):Out->Prop
 | .nx δ=>next δ
 | .ct δ=>next δ
 | .bk δ=>Q (.nx δ)
 | .rt d δ=>Q (.rt d δ)
 | .ro d δ=>Q (.ro d δ)
noncomputable def iR (δ:Loc) (i:Nat) (s:Sl) (Q:Loc->Prop):Prop:=i < δ.length/\Q (δ.set i s)
noncomputable def wx (pre δ:Loc) (i:Nat) (s:Sl) (Q:Loc->Prop):Prop:=i < δ.length/\Q (pre.reverse++δ.set i s)
noncomputable def Fv (δ:Loc) (i:Nat) (s:Sl) (Q:Loc->Prop):Prop:=Q (δ.set i s)
noncomputable def og (pre δ:Loc) (i:Nat) (s:Sl) (Q:Loc->Prop):Prop:=Q (pre.reverse++δ.set i s)
noncomputable def qM (pre δ:Loc) (Q:Loc->Prop):Prop:=Q (pre.reverse++δ)
noncomputable def tu (δ0:Loc) (j:Nat) (δ:Loc) (i:Nat) (Q:D->Loc->Prop):Prop:=match δ[i]? with
 | some (.val d)=>Q d δ0
 | some (.own ds)=>Q (.lst ds) (δ0.set j (.val (.lst ds)))
 | some (.odc ks ds)=>Q (.dct ks ds) (δ0.set j (.val (.dct ks ds)))
 | _=>False
noncomputable def wD (δ:Loc) (i:Nat) (Q:List D->Prop):Prop:=match δ[i]? with
 | some (.own ds)=>Q ds
 | _=>False
noncomputable def Fw (δ:Loc) (i:Nat) (Q:List Str->List D->Prop):Prop:=match δ[i]? with
 | some (.odc ks ds)=>Q ks ds
 | _=>False
noncomputable def Ff (δ:Loc) (i:Nat) (Q:D->Prop):Prop:=match δ[i]? with
 | some (.val d)=>Q d
 | _=>False
section
variable {cx:Cl} {δ pre:Loc}
theorem zx {ss:Ss} {Q:Out->Prop}:qU cx ss Q (.nx δ)↔wSs cx ss δ Q:=aY
theorem zw {ss:Ss} {Q:Out->Prop} {d:D}:qU cx ss Q (.rt d δ)↔Q (.rt d δ):=aY
theorem zz {ss:Ss} {Q:Out->Prop}:qU cx ss Q (.bk δ)↔Q (.bk δ):=aY
theorem zy {ss:Ss} {Q:Out->Prop}:qU cx ss Q (.ct δ)↔Q (.ct δ):=aY
theorem AK {n:Loc->Prop} {Q:Out->Prop}:mF n Q (.nx δ)↔n δ:=aY
theorem AL {n:Loc->Prop} {Q:Out->Prop}:mF n Q (.ct δ)↔n δ:=aY
theorem AM {n:Loc->Prop} {Q:Out->Prop}:mF n Q (.bk δ)↔Q (.nx δ):=aY
theorem AJ {n:Loc->Prop} {Q:Out->Prop} {d:D}:mF n Q (.rt d δ)↔Q (.rt d δ):=aY
theorem yJ {i:Nat} {s:Sl} {Q:Loc->Prop}:iR δ i s Q↔wx [] δ i s Q:=aY
theorem wu {i:Nat} {s t:Sl} {Q:Loc->Prop}:wx pre (t::δ) (i+1) s Q↔wx (t::pre) δ i s Q:=by simp [wx]
theorem wt {s t:Sl} {Q:Loc->Prop}:wx pre (t::δ) 0 s Q↔qM pre (s::δ) Q:=by simp [wx,qM]
theorem yN {i:Nat} {s:Sl} {Q:Loc->Prop}:Fv δ i s Q↔og [] δ i s Q:=aY
theorem tD {i:Nat} {s t:Sl} {Q:Loc->Prop}:og pre (t::δ) (i+1) s Q↔og (t::pre) δ i s Q:=by simp [og]
theorem tB {s t:Sl} {Q:Loc->Prop}:og pre (t::δ) 0 s Q↔qM pre (s::δ) Q:=by simp [og,qM]
theorem wA {t:Sl} {Q:Loc->Prop}:qM (t::pre) δ Q↔qM pre (t::δ) Q:=by simp [qM]
theorem yM {Q:Loc->Prop}:qM [] δ Q↔Q δ:=aY
theorem jS {δ0:Loc} {i j:Nat} {t:Sl} {Q:D->Loc->Prop}:tu δ0 j (t::δ) (i+1) Q↔tu δ0 j δ i Q:=aY
theorem lL {δ0:Loc} {j:Nat} {d:D} {Q:D->Loc->Prop}:tu δ0 j (.val d::δ) 0 Q↔Q d δ0:=aY
theorem yF {δ0:Loc} {j:Nat} {ds:List D} {Q:D->Loc->Prop}:tu δ0 j (.own ds::δ) 0 Q↔Fv δ0 j (.val (.lst ds)) fun δ1=>Q (.lst ds) δ1:=aY
theorem yG {δ0:Loc} {j:Nat} {ks:List Str} {ds:List D} {Q:D->Loc->Prop}:tu δ0 j (.odc ks ds::δ) 0 Q↔Fv δ0 j (.val (.dct ks ds)) fun δ1=>Q (.dct ks ds) δ1:=aY
theorem wH {i:Nat} {t:Sl} {Q:List Str->List D->Prop}:Fw (t::δ) (i+1) Q↔Fw δ i Q:=aY
theorem yV {ks:List Str} {ds:List D} {Q:List Str->List D->Prop}:Fw (.odc ks ds::δ) 0 Q↔Q ks ds:=aY
theorem wJ {i:Nat} {t:Sl} {Q:D->Prop}:tK (t::δ) (i+1) Q↔tK δ i Q:=aY
theorem yZ {d:D} {Q:D->Prop}:tK (.val d::δ) 0 Q↔Q d:=yr
theorem zc {ds:List D} {Q:D->Prop}:tK (.own ds::δ) 0 Q↔Q (.lst ds):=yr
theorem wC {i:Nat} {t:Sl} {Q:List D->Prop}:wD (t::δ) (i+1) Q↔wD δ i Q:=aY
theorem yO {ds:List D} {Q:List D->Prop}:wD (.own ds::δ) 0 Q↔Q ds:=aY
theorem wy {i:Nat} {t:Sl} {Q:D->Prop}:Ff (t::δ) (i+1) Q↔Ff δ i Q:=aY
theorem yH {d:D} {Q:D->Prop}:Ff (.val d::δ) 0 Q↔Q d:=aY
theorem pD {i:Nat} {Q:D->Loc->Prop}:wE cx (.var i) δ Q↔tu δ i δ i Q:=by
 rw [FF]
 unfold Bg tu PP.get demote
 cases h:δ[i]? with
 | none=>simp
 | some s=>cases s<;>simp
theorem gN {Q:Out->Prop}:wSs cx .nil δ Q↔Q (.nx δ):=yr
theorem ft {s:S} {ss:Ss} {Q:Out->Prop}:wSs cx (.cons s ss) δ Q↔wS cx s δ (qU cx ss Q):=by
 unfold wSs wS
 simp only [dO]
 cases evS cx s δ with
 | none=>exact yn (fun ⟨_,e,_⟩=>by cases e)
 | some o =>
   refine Iff.trans ?_ yr.symm
   cases o with
   | nx δ1=>exact aY
   | _=>exact yr
theorem Fu {tg:Tg} {e:E} {Q:Out->Prop}:wS cx (.asg tg e) δ Q↔wE cx e δ fun d δ1=>wTg δ1 tg d fun δ2=>Q (.nx δ2):=yb.trans (xc fun _ _=>ys.trans (xd fun _=>yr))
theorem Fh {i:Nat} {d:D} {Q:Loc->Prop}:wTg δ (.nm i) d Q↔iR δ i (.val d) Q:=yi
theorem yI {is:List Nat} {ds:List D} {Q:Loc->Prop}:wTg δ (.tp is) (.tup ds) Q↔(is.length = ds.length/\is.all (· < δ.length) = true)/\Q ((is.zip ds).foldl (fun δ p=>δ.set p.1 (.val p.2)) δ):=yi
theorem Fq {i:Nat} {e:E} {Q:Out->Prop}:wS cx (.new i e) δ Q↔wE cx e δ fun d δ1=>∃ ds,d = .lst ds/\iR δ1 i (.own ds) fun δ2=>Q (.nx δ2):=yb.trans (xc fun x _=>by
 cases x with
 | lst k=>refine Iff.trans ?_ Bl.symm;exact yi
 | _=>exact yn fun ⟨_,e,_⟩=>by cases e)
noncomputable def KA (x y:D) (Q:D->Prop):Prop:=∃ z,Lp x y = some z/\Q z
theorem FU {a b:Int} {Q:D->Prop}:KA (.int a) (.int b) Q↔Q (.int (a+b)):=yr
theorem Fo {e:E} {Q:Out->Prop}:wS cx (.ret e) δ Q↔wE cx e δ fun d δ1=>Q (.rt d δ1):=yb.trans (xc fun _ _=>yr)
theorem Cb {Q:Out->Prop}:wS cx .retN δ Q↔Q (.rt .non δ):=yr
theorem Cc {Q:Out->Prop}:wS cx .pass δ Q↔Q (.nx δ):=yr
theorem Ft {Q:Out->Prop}:wS cx .brk δ Q↔Q (.bk δ):=yr
theorem Ce {Q:Out->Prop}:wS cx .cont δ Q↔Q (.ct δ):=yr
theorem yK {c:E} {a b:Ss} {Q:Out->Prop}:wS cx (.ifs c a b) δ Q↔wT cx c δ fun k δ1=>if k = true then wSs cx a δ1 Q else wSs cx b δ1 Q:=yb.trans (xc fun k _=>by cases k<;>exact aY)
theorem Fs {tg:Tg} {src:It} {body:Ss} {Q:Out->Prop}:wS cx (.for_ tg src body) δ Q↔wI cx src δ fun ds δ1=>tL cx tg body ds δ1 Q:=yb.trans (xc fun _ _=>aY)
theorem wz {i:Nat} {e:E} {Q:Out->Prop}:wS cx (.append i e) δ Q↔wD δ i fun _=>wE cx e δ fun d δ1=>wD δ1 i fun ds=>ds.length < sizeLine/\iR δ1 i (.own (ds++[d])) fun δ2=>Q (.nx δ2):=by
 unfold wS wD
 simp only [evS]
 cases δ[i]? with
 | none=>exact yn id
 | some s =>
   cases s with
   | own ds0 =>
     refine yb.trans (xc fun d δ1=>?_)
     dsimp only
     cases h1:δ1[i]? with
     | none=>exact yn id
     | some s =>
       cases s with
       | own ds=>exact yi.trans ⟨fun q=>⟨q.1,(aE.mp h1).1,q.2⟩,fun q=>⟨q.1,q.2.2⟩⟩
       | _=>exact yn id
   | _=>exact yn id
theorem qQ {tg:Tg} {body:Ss} {Q:Out->Prop}:tL cx tg body [] δ Q↔Q (.nx δ):=yr
theorem oi {tg:Tg} {body:Ss} {x:D} {xs:List D} {Q:Out->Prop}:tL cx tg body (x::xs) δ Q↔wTg δ tg x fun δ2=>wSs cx body δ2 (mF (fun δ3=>tL cx tg body xs δ3 Q) Q):=by
 unfold tL wTg wSs
 simp only [forL,Kc]
 cases eR δ tg x with
 | none=>exact yn (fun ⟨_,e,_⟩=>by cases e)
 | some δ2 =>
   refine Iff.trans ?_ yr.symm
   dsimp only
   cases dO cx body δ2 with
   | none=>exact yn (fun ⟨_,e,_⟩=>by cases e)
   | some o =>
     refine Iff.trans ?_ yr.symm
     cases o with
     | nx δ1=>exact aY
     | ct δ1=>exact aY
     | _=>exact yr
theorem ie {tg:Tg} {body:Ss} {Q:Out->Prop} (P:List D->Loc->Prop) (step:∀ x xs δ,P (x::xs) δ->wTg δ tg x fun δ2=>wSs cx body δ2 (mF (P xs) Q)) (fin:∀ δ,P [] δ->Q (.nx δ)):∀ (ds:List D) (δ:Loc),P ds δ->tL cx tg body ds δ Q
 | [],δ,h=>qQ.mpr (fin δ h)
 | x::xs,δ,h=>by
   rw [oi]
   obtain ⟨δ2,e,o,e2,q⟩:=step x xs δ h
   refine ⟨δ2,e,o,e2,?_⟩
   cases o with
   | nx δ1=>exact ie P step fin xs δ1 q
   | ct δ1=>exact ie P step fin xs δ1 q
   | rt d δ1=>exact q
   | ro d δ1=>exact q
   | bk δ1=>exact q
end
theorem qO {a b:Int} {Q:D->Prop}:wOp .add (.int a) (.int b) Q↔Q (.int (a+b)):=yr
theorem yP {a b:Int} {Q:D->Prop}:wOp .sub (.int a) (.int b) Q↔Q (.int (a - b)):=yr
theorem yS {a b:Int} {Q:D->Prop}:wOp .mul (.int a) (.int b) Q↔iu a b = true/\Q (.int (a * b)):=yi
theorem jr {a b:Int} {Q:D->Prop}:wOp .mod (.int a) (.int b) Q↔0 < b/\Q (.int (a % b)):=yi
theorem oh {a b:Int} {Q:D->Prop}:wOp .fdiv (.int a) (.int b) Q↔(0 < b/\b < 1000000000000000000000000000000000000000000000000000000000000)/\Q (.int (a / b)):=yi
theorem yQ {a b:Int} {Q:D->Prop}:wOp .pow (.int a) (.int b) Q↔(0<=b/\b<=1000000/\a.natAbs < 2 ^ 64)/\Q (.int (a ^ b.toNat)):=yi
theorem qN {a b:Str} {Q:D->Prop}:wOp .add (.str a) (.str b) Q↔a.length+b.length<=sizeLine/\Q (.str (a++b)):=yi
theorem yR {a:Str} {b:Int} {Q:D->Prop}:wOp .mul (.str a) (.int b) Q↔(0<=b/\b<=1000/\a.length<=1000)/\Q (.str (Ab a b.toNat)):=yi
theorem yT {x:D} {a b:List D} {Q:D->Prop}:wOp .add (.tup (x::a)) (.tup b) Q↔(x::a).length+b.length<=sizeLine/\Q (.tup (x::a++b)):=yi
theorem wF {b:List D} {Q:D->Prop}:wOp .add (.tup []) (.tup b) Q↔Q (.tup b):=yr
theorem yU {a b:List D} {Q:D->Prop}:wOp .add (.lst a) (.lst b) Q↔a.length+b.length<=sizeLine/\Q (.lst (a++b)):=yi
theorem Cq {a b:Int} {Q:Bool->Prop}:gf .lt (.int a) (.int b) Q↔Q (decide (a < b)):=yr
theorem zf {a b:List D} {Q:Bool->Prop}:gf .lt (.tup a) (.tup b) Q↔∃ k,iT (.tup a) (.tup b) = some k/\Q k:=aY
theorem zg {a b:Str} {Q:Bool->Prop}:gf .lt (.str a) (.str b) Q↔Q (decide (a.cps.toList < b.cps.toList)):=yr
theorem Cr {a b:Int} {Q:Bool->Prop}:gf .le (.int a) (.int b) Q↔Q (decide (a<=b)):=yr
theorem Cs {a b:Int} {Q:Bool->Prop}:gf .gt (.int a) (.int b) Q↔Q (decide (b < a)):=yr
theorem lO {a b:Int} {Q:Bool->Prop}:gf .eq (.int a) (.int b) Q↔Q (decide (a = b)):=yr
theorem zh {a b:Str} {Q:Bool->Prop}:gf .eq (.str a) (.str b) Q↔Q (a == b):=yr
theorem wK {a:Int} {b:Str} {Q:Bool->Prop}:gf .eq (.int a) (.str b) Q↔Q false:=yr
theorem ze {a:List D} {Q:Bool->Prop}:gf .ne (.lst a) (.lst []) Q↔bI a < 99999/\Q (!a.isEmpty):=by
 have h:gc (.lst a) (.lst []) = decide (bI a < 99999):=by
  show (true && decide (min (bI a+1) 1<=150) && decide (max (bI a+1) 1 < 100000)) = _
  rw [jQ,decide_eq_true (show min (bI a+1) 1<=150 by omega),jQ]
  exact decide_eq_decide.mpr (by omega)
 have e:ux .ne (.lst a) (.lst []) = if bI a < 99999 then some (!a.isEmpty) else none:=by
  show (if gc (.lst a) (.lst []) = true then _ else none) = _
  rw [h]
  by_cases q:bI a < 99999
  . rw [if_pos (decide_eq_true q),if_pos q]
    cases a<;>rfl
  . rw [if_neg (by rw [decide_eq_false q];exact ai),if_neg q]
 unfold gf
 rw [e]
 exact yi
theorem qR {a:D} {ds:List D} {Q:Bool->Prop}:gf .isin a (.tup ds) Q↔(dep a<=150/\bI ds < 99999)/\Q (ds.any fun y=>eqD y a):=yi
theorem wX {ds:List D} {Q:D->Prop}:gE .len [.lst ds] Q↔Q (.int ds.length):=yr
theorem wV {ds:List D} {Q:D->Prop}:gE .len [.tup ds] Q↔Q (.int ds.length):=yr
theorem wW {x:Str} {Q:D->Prop}:gE .len [.str x] Q↔x.length<=sizeLine/\Q (.int x.length):=yi
theorem zl {i j:Int} {Q:D->Prop}:gE .min [.int i,.int j] Q↔Q (.int (if j < i then j else i)):=yr
theorem zm {i j:Int} {Q:D->Prop}:gE .max [.int i,.int j] Q↔Q (.int (if j > i then j else i)):=yr
theorem wQ {ds:List D} {Q:D->Prop}:gE .max [.lst ds] Q↔∃ ns,oN ds = some ns/\ns≠[]/\Q (.int (pF ns)):=by
 unfold gE
 simp only [hX,maxD]
 cases h:oN ds with
 | none=>simp
 | some ns=>by_cases hn:ns = []<;>simp [hn]
theorem wZ {b:Bool} {Q:D->Prop}:gE .toInt [.bl b] Q↔Q (.int (if b then 1 else 0)):=yr
theorem wY {b:Int} {Q:D->Prop}:gE .toInt [.int b] Q↔Q (.int b):=yr
theorem zj {i:Int} {Q:D->Prop}:gE .toStr [.int i] Q↔i.natAbs.log2 < 1920/\Q (.str (toString i)):=yi
theorem wN {ds:List D} {Q:D->Prop}:gE .toTup [.lst ds] Q↔Q (.tup ds):=yr
theorem wM {ds:List D} {Q:D->Prop}:gE .toTup [.tup ds] Q↔Q (.tup ds):=yr
theorem wU {ds:List D} {Q:D->Prop}:gE .toLst [.lst ds] Q↔Q (.lst ds):=yr
theorem wR {ds:List D} {Q:D->Prop}:gE .toLst [.tup ds] Q↔Q (.lst ds):=yr
theorem qS {ds:List D} {Q:D->Prop}:gE .sorted [.lst ds] Q↔sortable ds = true/\Q (.lst (dQ ds)):=yi
theorem Fg {b:Bool} {Q:Bool->Prop}:wTv (.bl b) Q↔Q b:=yr
theorem BV {ds:List D} {Q:Bool->Prop}:wTv (.lst ds) Q↔Q (!ds.isEmpty):=yr
theorem Cf {ds:List D} {i:Int} {Q:D->Prop}:wIx (.lst ds) (.int i) Q↔∃ d,L2.atI ds i = some d/\Q d:=aY
theorem yY {d:D} {ds:List D} {Q:D->Prop}:wIx (.tup (d::ds)) (.int 0) Q↔Q d:=by
 simp [wIx,ixD,L2.atI,L2.ixN]
theorem tJ {ds:List D} {Q:List D->Prop}:wItems (.lst ds) Q↔Q ds:=yr
theorem tF {ds:List D} {Q:List D->Prop}:wItems (.tup ds) Q↔Q ds:=yr
theorem tH {x:Str} {Q:List D->Prop}:wItems (.str x) Q↔x.length<=sizeLine/\Q (x.cps.toList.map fun c=>.str ⟨#[c]⟩):=yi
noncomputable def gD (G:List Fd) (gl:List D) (n i:Nat) (ds:List D) (Q:D->Prop):Prop:=∃ d,PP.run G gl n i ds = some d/\Q d
noncomputable def retS (Q:D->Prop):Out->Prop
 | .rt d _=>Q d
 | .nx _=>Q .non
 | .ro d _=>Q d
 | _=>False
theorem bh {G:List Fd} {gl:List D} {n i:Nat} {ds:List D} {P Q:D->Prop} (h:gD G gl n i ds P) (k:∀ d,P d->Q d):gD G gl n i ds Q:=by
 obtain ⟨d,e,p⟩:=h
 exact ⟨d,e,k d p⟩
theorem bE {G:List Fd} {gl:List D} {n i:Nat} {ds:List D} {Q:D->Prop} (fd:Fd) (h:G[i]? = some fd) (hl:ds.length = fd.ps.length) (hf:fd.hf = false) (q:wSs ⟨PP.run G gl n,gl,hfs G⟩ fd.body (init (fd.ps++fd.loc).length ds) (retS Q)):gD G gl (n+1) i ds Q:=by
 obtain ⟨o,e,q⟩:=q
 unfold gD
 have:PP.run G gl (n+1) i ds = outD (dO ⟨PP.run G gl n,gl,hfs G⟩ fd.body (init (fd.ps++fd.loc).length ds)):=by
  conv=>lhs;unfold PP.run
  rw [h]
  dsimp only
  rw [if_pos hl,hf]
  rfl
 rw [this,e]
 cases o with
 | rt d δ=>exact ⟨d,rfl,q⟩
 | ro d δ=>exact ⟨d,rfl,q⟩
 | nx δ=>exact ⟨.non,rfl,q⟩
 | bk δ=>exact q.elim
 | ct δ=>exact q.elim
theorem wL {G:List Fd} {gl:List D} {n f:Nat} {ds:List D} {Q:D->Prop}:zi ⟨PP.run G gl n,gl,hfs G⟩ f ds Q↔gD G gl n f ds Q:=aY
theorem Dh {Q:D->Prop} {d:D} {δ:Loc}:retS Q (.rt d δ)↔Q d:=aY
theorem Di {Q:D->Prop} {δ:Loc}:retS Q (.nx δ)↔Q .non:=aY
end PP
end
section
namespace PP
open PySem
theorem uM {x:Str} {i:Int} {Q:D->Prop}:wIx (.str x) (.int i) Q↔x.length<=sizeLine/\∃ c,L2.atI x.cps.toList i = some c/\Q (.str ⟨#[c]⟩):=by
 unfold wIx ixD
 dsimp only
 constructor
 . rintro ⟨z,e,q⟩
   split at e
   . rw [aL] at e
     obtain ⟨c,e,rfl⟩:=e
     exact ⟨‹_›,c,e,q⟩
   . cases e
 . rintro ⟨h,c,e,q⟩
   exact ⟨_,by rw [if_pos h,e];rfl,q⟩
theorem bR {G:List Fd} {gl:List D} {n i:Nat} {ds:List D} {d:D} {Q:D->Prop} (h:PP.run G gl n i ds = some d):gD G gl n i ds Q↔Q d:=by
 unfold gD
 rw [h]
 exact ⟨fun ⟨_,e,q⟩=>by cases e;exact q,fun q=>⟨d,rfl,q⟩⟩
theorem dJ {G:List Fd} {gl:List D} {n i:Nat} {ds:List D} {d:D} (h:gD G gl n i ds fun x=>x = d):PP.run G gl n i ds = some d:=by
 obtain ⟨x,e,rfl⟩:=h
 exact e
theorem BA {α:Type} {ds:List α} {j:Int} (h0:0<=j) (h1:j < ds.length):∃ d,d∈ds/\L2.atI ds j = some d:=by
 have hk:j.toNat < ds.length:=by omega
 refine ⟨ds[j.toNat],hV hk,?_⟩
 have:=L2.atI_nat (xs:=ds) (j:=j.toNat) (v:=ds[j.toNat]) (ax hk)
 rwa [show ((j.toNat:Nat):Int) = j by omega] at this
theorem mul_r {a b:Int} (h0:-(2 ^ 64) < b) (h1:b < 2 ^ 64):iu a b = true:=by
 unfold iu
 simp only [decide_eq_true h0,decide_eq_true h1,bq,kM,ff]
theorem JK {a b:Int} (h0:-(2 ^ 64) < a) (h1:a < 2 ^ 64):iu a b = true:=by
 unfold iu
 simp only [decide_eq_true h0,decide_eq_true h1,bq,kM,ff]
theorem EJ {a b:Int} (h0:a.natAbs < 2 ^ 200) (h1:b.natAbs < 2 ^ 200):iu a b = true:=by
 unfold iu
 simp only [decide_eq_true h0,decide_eq_true h1,bq,kM,ff]
theorem Cz (a b:Str):(a++b).length = a.length+b.length:=by
 show (a.cps++b.cps).size = a.cps.size+b.cps.size
 exact Array.size_append
theorem small {n:Nat} (h:n<=1000):n<=sizeLine:=iG (gA h (by decide))
theorem str_len (x:Str):x.cps.toList.length = x.length:=by
 show x.cps.toList.length = x.cps.size
 simp
theorem va {lo:Int} {n:Nat} {x:D} (h:x∈nL lo n):∃ i:Nat,i < n/\x = .int (lo+i):=by
 unfold nL at h
 rw [aR] at h
 obtain ⟨i,hi,rfl⟩:=h
 exact ⟨i,by simpa using hi,rfl⟩
theorem pT {lo:Int} {n:Nat}:(nL lo n).length = n:=by simp [nL]
theorem Ic {a b:Int} {P:Int->Int->Prop}:(∃ i j,D.int a = D.int i/\D.int b = D.int j/\P i j)↔P a b:=⟨fun ⟨_,_,e,f,q⟩=>by cases e;cases f;exact q,fun q=>⟨_,_,rfl,rfl,q⟩⟩
theorem yX {a b:D} {ds:List D} {Q:D->Prop}:wIx (.tup (a::b::ds)) (.int 1) Q↔Q b:=by
 have:L2.atI (a::b::ds) 1 = some b:=L2.atI_nat (j:=1) rfl
 simp [wIx,ixD,this]
theorem yW {a b c:D} {ds:List D} {Q:D->Prop}:wIx (.tup (a::b::c::ds)) (.int 2) Q↔Q c:=by
 have:L2.atI (a::b::c::ds) 2 = some c:=L2.atI_nat (j:=2) rfl
 simp [wIx,ixD,this]
theorem qP {d:D} {ds:List D} {Q:D->Prop}:wIx (.lst (d::ds)) (.int 0) Q↔Q d:=by
 simp [wIx,ixD,L2.atI,L2.ixN]
theorem pB {δ:Loc} {i j:Nat} {a b:D} {Q:Loc->Prop}:wTg δ (.tp [i,j]) (.tup [a,b]) Q↔iR δ i (.val a) fun δ1=>iR δ1 j (.val b) Q:=by
 rw [yI]
 unfold iR
 simp only [dH,ib,bb,gM,aa,decide_eq_true_eq]
 exact ⟨fun ⟨⟨_,h1,h2⟩,q⟩=>⟨h1,h2,q⟩,fun ⟨h1,h2,q⟩=>⟨⟨rfl,h1,h2⟩,q⟩⟩
theorem BX {δ:Loc} {i j k:Nat} {a b c:D} {Q:Loc->Prop}:wTg δ (.tp [i,j,k]) (.tup [a,b,c]) Q↔iR δ i (.val a) fun δ1=>iR δ1 j (.val b) fun δ2=>iR δ2 k (.val c) Q:=by
 rw [yI]
 unfold iR
 simp only [dH,ib,bb,gM,aa,decide_eq_true_eq]
 exact ⟨fun ⟨⟨_,h1,h2,h3⟩,q⟩=>⟨h1,h2,h3,q⟩,fun ⟨h1,h2,h3,q⟩=>⟨⟨rfl,h1,h2,h3⟩,q⟩⟩
theorem BW {δ:Loc} {is:List Nat} {ds:List D} {Q:Loc->Prop}:wTg δ (.tp is) (.lst ds) Q↔wTg δ (.tp is) (.tup ds) Q:=aY
theorem BY {δ:Loc} {i j k:Nat} {a b c:D} {Q:Loc->Prop}:wTg δ (.pr i [j,k]) (.tup [a,.tup [b,c]]) Q↔iR δ i (.val a) fun δ1=>iR δ1 j (.val b) fun δ2=>iR δ2 k (.val c) Q:=by
 unfold wTg iR eR
 simp only [dH,ib,bb,gM,aa,decide_eq_true_eq,aw,aF,true_and]
 constructor
 . rintro ⟨δ',e,q⟩
   split at e
   . rename_i h
     cases e
     exact ⟨h.1,h.2.1,h.2.2,q⟩
   . cases e
 . rintro ⟨h1,h2,h3,q⟩
   exact ⟨_,if_pos ⟨h1,h2,h3⟩,q⟩
end PP
end
section
namespace PP
open PySem
noncomputable def SI:=And.intro (@aI.{0,0}) (And.intro (@kK.{0,0}) (And.intro (@lK.{0}) (And.intro (@nB.{0}) (And.intro (@cP.{0}) (And.intro (@aw.{0}) (And.intro (@aF.{0}) (And.intro (@List.replicate_succ.{0}) (@List.replicate_zero.{0}))))))))
noncomputable def WS:=And.intro (@Jc) (And.intro (@tM) (And.intro (@Jf) (And.intro (@FJ) (And.intro (@FH) (And.intro (@FQ) (And.intro (@FO) (And.intro (@tw) (And.intro (@FR) (And.intro (@Jd) (And.intro (@FI) (And.intro (@FK) (And.intro (@Fm) (And.intro (@EA) (And.intro (@Fj) (And.intro (@Fi) (And.intro (@IX) (And.intro (@BZ) (And.intro (@Fl) (And.intro (@FN) (And.intro (@FG) (And.intro (@FL) (And.intro (@Je) (And.intro (@Jb) (And.intro (@Cp) (And.intro (@FP) (And.intro (@Cj) (And.intro (@zd) (And.intro (@IY) (And.intro (@Fx) (And.intro (@uN) (And.intro (@FE) (And.intro (@FA) (And.intro (@Ci) (And.intro (@Ja) (And.intro (@Co) (And.intro (@zx) (And.intro (@zw) (And.intro (@zz) (And.intro (@zy) (And.intro (@AK) (And.intro (@AL) (And.intro (@AM) (And.intro (@AJ) (And.intro (@yJ) (And.intro (@wu) (And.intro (@wt) (And.intro (@yN) (And.intro (@tD) (And.intro (@tB) (And.intro (@wA) (And.intro (@yM) (And.intro (@jS) (And.intro (@lL) (And.intro (@yF) (And.intro (@wJ) (And.intro (@yZ) (And.intro (@zc) (And.intro (@wC) (And.intro (@yO) (And.intro (@wy) (And.intro (@yH) (And.intro (@pD) (And.intro (@gN) (And.intro (@ft) (And.intro (@Fu) (And.intro (@Fh) (And.intro (@Fq) (And.intro (@FU) (And.intro (@Fo) (And.intro (@Cb) (And.intro (@Cc) (And.intro (@Ft) (And.intro (@Ce) (And.intro (@yK) (And.intro (@Fs) (And.intro (@wz) (And.intro (@qO) (And.intro (@yP) (And.intro (@yS) (And.intro (@jr) (And.intro (@oh) (And.intro (@yQ) (And.intro (@qN) (And.intro (@yR) (And.intro (@yT) (And.intro (@yU) (And.intro (@Cq) (And.intro (@zf) (And.intro (@zg) (And.intro (@Cr) (And.intro (@Cs) (And.intro (@lO) (And.intro (@zh) (And.intro (@ze) (And.intro (@qR) (And.intro (@wX) (And.intro (@wV) (And.intro (@wW) (And.intro (@zl) (And.intro (@zm) (And.intro (@wQ) (And.intro (@wZ) (And.intro (@wY) (And.intro (@zj) (And.intro (@wN) (And.intro (@wM) (And.intro (@wU) (And.intro (@wR) (And.intro (@qS) (And.intro (@Fg) (And.intro (@BV) (And.intro (@Cf) (And.intro (@yY) (And.intro (@tJ) (And.intro (@tF) (And.intro (@tH) (And.intro (@wL) (And.intro (@Dh) (And.intro (@Di) (And.intro (@uM) (And.intro (@Ea) (And.intro (@oT) (And.intro (@Bl) (And.intro (@Ic) (And.intro (@yX) (And.intro (@yW) (And.intro (@pB) (And.intro (@BX) (And.intro (@BW) (And.intro (@BY) (And.intro (@yG) (And.intro (@wH) (And.intro (@yV) (And.intro (@wF) (And.intro (@wK) (True.intro))))))))))))))))))))))))))))))))))))))))))))))))))))))))))))))))))))))))))))))))))))))))))))))))))))))))))))))))))))))))))))))))))))))))
end PP
end
section
namespace PP
open PySem
theorem pf {α:Type} {lt lt':Nat->Nat->Bool} {n:Nat} (e:∀ i j,i < n->j < n->lt i j = lt' i j):∀ (t:PySem.W.KasT α),inR lt n t->ans lt t = ans lt' t
 | .ret a,_=>rfl
 | .ask i j k,h=>by
   unfold inR at h
   rw [dP,dP,<- e i j h.1 h.2.1]
   exact pf e _ h.2.2
theorem oA {α β:Type} (d:α) (f:α->β) (xs:List α):(List.range xs.length).map (fun i=>f (xs.getD i d)) = xs.map f:=by
 apply List.ext_getElem
 . simp
 . intro i h1 h2
   simp only [aj] at h2
   simp [List.getD,ax h2]
theorem zE {α:Type} [Inhabited α] (g:α->D) (lt:α->α->Bool) (hlt:∀ x y,iT (g x) (g y) = some (lt x y)) (as:∀ a b,lt a b = true->lt b a = false) (tr:∀ a b c,lt b a = false->lt c b = false->lt c a = false) (xs:List α) :
 ∃ ys:List α,dQ (xs.map g) = ys.map g/\ys.Perm xs/\∀ i j,i<=j->j < ys.length->lt (ys.getD j default) (ys.getD i default) = false:=by
 have rf:∀ a,lt a a = false:=fun a=>by
  cases e:lt a a with
  | false=>rfl
  | true=>rw [as a a e] at e;cases e
 unfold dQ
 rw [aj]
 split
 . rename_i h
   refine ⟨xs,rfl,List.Perm.refl _,fun i j h1 h2=>?_⟩
   have:i = j:=by omega
   subst this
   exact rf _
 . rename_i h
   have hg:∀ i,i < xs.length->(xs.map g).getD i .non = g (xs.getD i default):=fun i hi=>by
    simp [List.getD,ax hi]
   have e:ans (gp (xs.map g)) (PySem.W.kas_sort xs.length) = ans (fun i j=>lt (xs.getD i default) (xs.getD j default)) (PySem.W.kas_sort xs.length):=by
    refine pf (n:=xs.length) (fun i j hi hj=>?_) _ (uV (by omega))
    unfold gp
    rw [hg i hi,hg j hj,hlt]
    rfl
   rw [e]
   obtain ⟨z,p,u⟩:=CA (lt:=fun i j=>lt (xs.getD i default) (xs.getD j default)) ⟨fun a b=>as _ _,fun a b c=>tr _ _ _⟩ xs.length (by omega)
   have pl:(ans (fun i j=>lt (xs.getD i default) (xs.getD j default)) (PySem.W.kas_sort xs.length)).toList.Perm (List.range xs.length):=(letI:Tbs:=⟨[],[],[]⟩;fh _)
   generalize ans (fun i j=>lt (xs.getD i default) (xs.getD j default)) (PySem.W.kas_sort xs.length) = r at z p u pl ⊢
   refine ⟨r.toList.map fun i=>xs.getD i default,?_,?_,fun i j h1 h2=>?_⟩
   . rw [kL]
     refine yq fun i hi=>?_
     exact hg i (by simpa using pl.mem_iff.mp hi)
   . have:=pl.map fun i=>xs.getD i default
     rwa [show (List.range xs.length).map (fun i=>xs.getD i default) = xs from by simpa using oA default id xs] at this
   . rw [aj,ba,z] at h2
     have hr:∀ k,k < xs.length->(r.toList.map fun i=>xs.getD i default).getD k default = xs.getD (r.getD k 0) default:=fun k hk=>by
      have hk':k < r.toList.length:=by rw [ba,z];exact hk
      have hk2:k < r.size:=by rw [z];exact hk
      simp [List.getD,hk2,Array.getD]
     rw [hr i (by omega),hr j h2]
     exact u i j h1 h2
section
variable {cx:Cl} {δ:Loc}
theorem iH {α:Type} {k:Nat} {tg:Tg} {ifs:Eo} {elt:E} {Q:List D->Loc->Prop} (g:α->D) (p:α->Bool) (h:α->D):∀ (xs:List α),(∀ x∈xs,wTg (δ++List.replicate k .no) tg (g x) fun δ2=>wG cx ifs δ2 fun b δ3=>b = p x/\if b = true then wE cx elt δ3 fun y δ4=>y = h x/\δ4.take δ.length = δ else δ3.take δ.length = δ) ->
 Q ((xs.filter p).map h) δ->lN cx k tg ifs elt (xs.map g) δ Q
 | [],_,q=>fO.mpr q
 | x::xs,hx,q=>by
   rw [aI,gO]
   obtain ⟨δ2,e,b,δ3,e2,rfl,e3⟩:=hx x ak
   refine ⟨δ2,e,_,δ3,e2,?_⟩
   cases hp:p x with
   | true =>
     rw [hp,if_pos rfl] at e3
     obtain ⟨y,δ4,e4,rfl,t⟩:=e3
     rw [if_pos rfl]
     refine ⟨_,δ4,e4,?_⟩
     show lN cx k tg ifs elt _ (δ4.take δ.length) _
     rw [t]
     refine iH g p h xs (fun z hz=>hx z (av _ hz)) ?_
     rw [List.filter_cons_of_pos hp] at q
     exact q
   | false =>
     rw [hp,if_neg ai] at e3
     rw [if_neg ai,e3]
     refine iH g p h xs (fun z hz=>hx z (av _ hz)) ?_
     rw [List.filter_cons_of_neg (by simp [hp])] at q
     exact q
theorem ic {α:Type} {tg:Tg} {body:Ss} {Q:Out->Prop} (g:α->D) (P:List α->Loc->Prop) (step:∀ x xs δ,P (x::xs) δ->wTg δ tg (g x) fun δ2=>wSs cx body δ2 (mF (P xs) Q)) (fin:∀ δ,P [] δ->Q (.nx δ)) (xs:List α) (δ:Loc) (h:P xs δ):tL cx tg body (xs.map g) δ Q:=by
 induction xs generalizing δ with
 | nil=>exact qQ.mpr (fin δ h)
 | cons x xs ih =>
   rw [aI,oi]
   obtain ⟨δ2,e,o,e2,q⟩:=step x xs δ h
   refine ⟨δ2,e,o,e2,?_⟩
   cases o with
   | nx δ3=>exact ih δ3 q
   | ct δ3=>exact ih δ3 q
   | bk δ3=>exact q
   | rt d δ3=>exact q
   | ro d δ3=>exact q
end
end PP
end
section
namespace PP
open PySem
section
variable {cx:Cl} {δ:Loc}
end
end PP
end
section
namespace PP
open PySem
section
variable {cx:Cl} {δ:Loc}
end
end PP
end
section
namespace PP
open PySem SetTable
noncomputable def lp (m:Nat) (x:Nat × Nat):Probe:={ j:=x.1,more:=runEnd m x.1 - x.1,i:=x.1,perturb:=x.2,dummy:=none }
noncomputable def adv (m:Nat) (p:Probe):Probe:=if p.more > 0 then { p with j:=p.j+1,more:=p.more - 1 } else
 { p with j:=(leap m p.i p.perturb).1,more:=runEnd m (leap m p.i p.perturb).1 - (leap m p.i p.perturb).1,i:=(leap m p.i p.perturb).1,perturb:=(leap m p.i p.perturb).2 }
theorem BG (t:SetTable) (p:Probe):t.advance p = adv t.mask p:=rfl
noncomputable def sq (m:Nat) (h:Int):Nat->Probe
 | 0=>lp m (bits h % (m+1),bits h)
 | n+1=>adv m (sq m h n)
noncomputable abbrev ps (m:Nat) (h:Int) (n:Nat):Nat:=(sq m h n).j
noncomputable def itA (m:Nat):Nat->Probe->Probe
 | 0,p=>p
 | k+1,p=>itA m k (adv m p)
theorem sy (m:Nat):∀ (k:Nat) (p:Probe),itA m (k+1) p = adv m (itA m k p)
 | 0,p=>rfl
 | k+1,p=>sy m k (adv m p)
theorem pK (m:Nat) (h:Int) (n:Nat):∀ k,sq m h (n+k) = itA m k (sq m h n)
 | 0=>rfl
 | k+1=>by rw [sy,<- pK m h n k];rfl
theorem qf (m:Nat):∀ (a b:Nat) (p:Probe),itA m (a+b) p = itA m b (itA m a p)
 | 0,b,p=>by rw [uG];rfl
 | a+1,b,p=>by rw [kB];exact qf m a b (adv m p)
theorem ox {m i:Nat} (h:i<=m):runEnd m i<=m:=by unfold runEnd;split<;>omega
theorem rL (m i:Nat):runEnd m i - i<=9:=by unfold runEnd;split<;>omega
theorem oy (m i:Nat):i<=runEnd m i:=by unfold runEnd;split<;>omega
structure Pok (m:Nat) (p:Probe):Prop where
 i:p.i<=m
 m:p.j+p.more = runEnd m p.i
 n:p.more<=9
 q:p.perturb < 2 ^ 64
 d:p.dummy = none
theorem Pok.j {m:Nat} {p:Probe} (h:Pok m p):p.j<=m:=by have:=ox h.i;have:=h.m;omega
theorem EK {m:Nat} {x:Nat × Nat} (h:x.1<=m) (q:x.2 < 2 ^ 64):Pok m (lp m x):=⟨h,by show x.1+(runEnd m x.1 - x.1) = runEnd m x.1;have:=oy m x.1;omega,rL _ _,q,rfl⟩
theorem vF {m i q:Nat} (hq:q < 2 ^ 64):(leap m i q).1<=m/\(leap m i q).2 < 2 ^ 64:=by
 unfold leap
 exact ⟨cO (gz _ (iF _)),gA (Nat.div_le_self _ _) hq⟩
theorem IF {m:Nat} {p:Probe} (h:Pok m p):Pok m (adv m p):=by
 unfold adv
 split
 . exact ⟨h.i,by have:=h.m;show p.j+1+(p.more - 1) = runEnd m p.i;omega,by have:=h.n;show p.more - 1<=9;omega,h.q,h.d⟩
 . have:=vF (m:=m) (i:=p.i) h.q
   have:=EK this.1 this.2
   exact ⟨this.i,this.m,this.n,this.q,h.d⟩
theorem wa (h:Int):bits h < 2 ^ 64:=by
 unfold bits
 have h1:=bp h (show (2 ^ 64:Int)≠0 by decide)
 have h2:=aZ h (show (0:Int) < 2 ^ 64 by decide)
 omega
theorem uU (m:Nat) (h:Int):∀ n,Pok m (sq m h n)
 | 0=>EK (cO (gz _ (iF _))) (wa h)
 | n+1=>IF (uU m h n)
theorem jy (m:Nat):∀ (r:Nat) (p:Probe),p.more = r->p.dummy = none->itA m (r+1) p = lp m (leap m p.i p.perturb)
 | 0,p,h,d=>by
   show adv m p = _
   unfold adv lp
   rw [if_neg (by omega),d]
 | r+1,p,h,d=>by
   show itA m (r+1) (adv m p) = _
   unfold adv
   rw [if_pos (by omega)]
   exact jy m r _ (by show p.more - 1 = r;omega) d
noncomputable def iw (m:Nat):Nat->Nat × Nat->Nat × Nat
 | 0,x=>x
 | k+1,x=>iw m k (leap m x.1 x.2)
theorem sr (m:Nat):∀ (a b:Nat) (x:Nat × Nat),iw m (a+b) x = iw m b (iw m a x)
 | 0,b,x=>by rw [uG];rfl
 | a+1,b,x=>by rw [kB];exact sr m a b _
theorem EL (m:Nat):∀ (k:Nat) (x:Nat × Nat),∃ s,s<=10 * k/\itA m s (lp m x) = lp m (iw m k x)
 | 0,x=>⟨0,by omega,rfl⟩
 | k+1,x=>by
   obtain ⟨s,h1,h2⟩:=EL m k (leap m x.1 x.2)
   have h9:=rL m x.1
   refine ⟨(runEnd m x.1 - x.1+1)+s,by omega,?_⟩
   rw [qf,jy m (runEnd m x.1 - x.1) (lp m x) rfl rfl]
   exact h2
theorem AF (m:Nat):∀ (k:Nat) (x:Nat × Nat),(iw m k x).2 = x.2 / 32 ^ k
 | 0,x=>by simp [iw]
 | k+1,x=>by
   show (iw m k (leap m x.1 x.2)).2 = _
   rw [AF m k]
   show x.2 / 32 / 32 ^ k = _
   rw [Nat.div_div_eq_div_mul,kY,Nat.mul_comm]
theorem AG (m:Nat):∀ (k:Nat) (x:Nat × Nat),x.1<=m->(iw m k x).1<=m
 | 0,x,h=>h
 | k+1,x,h=>AG m k _ (cO (gz _ (iF _)))
noncomputable def fit (m:Nat):Nat->Nat->Nat
 | 0,i=>i
 | c+1,i=>fit m c ((i * 5+1) % (m+1))
theorem lD (m:Nat):∀ (a b i:Nat),fit m (a+b) i = fit m b (fit m a i)
 | 0,b,i=>by rw [uG];rfl
 | a+1,b,i=>by rw [kB];exact lD m a b _
theorem AH (m:Nat):∀ (k i:Nat),iw m k (i,0) = (fit m k i,0)
 | 0,i=>rfl
 | k+1,i=>by
   show iw m k (leap m i 0) = _
   unfold leap
   exact AH m k _
noncomputable def mk (m:Nat):Prop:=m = 7\/m = 31\/m = 127
theorem DZ {m:Nat} (h:mk m):fit m (m+1) 0 = 0/\∀ T,T < m+1->∃ c,c < m+1/\fit m c 0 = T:=by
 rcases h with rfl | rfl | rfl<;>exact ⟨by decide +kernel,by decide +kernel⟩
theorem Bj {m:Nat} (h:mk m) {i T:Nat} (hi:i<=m) (hT:T<=m):∃ c,c<=m/\fit m c i = T:=by
 obtain ⟨h0,ha⟩:=DZ h
 obtain ⟨a,a1,rfl⟩:=ha i (by omega)
 obtain ⟨b,b1,rfl⟩:=ha T (by omega)
 by_cases hab:a<=b
 . exact ⟨b - a,by omega,by rw [<- lD];congr 1;omega⟩
 . refine ⟨(m+1 - a)+b,by omega,?_⟩
   rw [<- lD,show a+(m+1 - a+b) = (m+1)+b by omega,lD,h0]
theorem oK {m:Nat} (h:mk m) {x:Nat × Nat} (hi:x.1<=m) (hq:x.2 < 2 ^ 64) {T:Nat} (hT:T<=m):∃ c,c<=m+13/\(iw m c x).1 = T:=by
 have q0:(iw m 13 x).2 = 0:=by
  rw [AF]
  exact Nat.div_eq_of_lt (aP hq (by decide))
 obtain ⟨c,c1,e⟩:=Bj h (AG m 13 x hi) hT
 refine ⟨13+c,by omega,?_⟩
 rw [sr,show iw m 13 x = ((iw m 13 x).1,0) by rw [<- q0],AH]
 exact e
theorem cov {m:Nat} (hm:mk m) (h:Int) (n:Nat) {T:Nat} (hT:T<=m):∃ N,n<=N/\N < n+10 * turns m/\ps m h N = T:=by
 have ok:=uU m h n
 have lo:=vF (m:=m) (i:=(sq m h n).i) ok.q
 obtain ⟨c,c1,e⟩:=oK hm lo.1 lo.2 hT
 obtain ⟨s,s1,e2⟩:=EL m c (leap m (sq m h n).i (sq m h n).perturb)
 have hn:=ok.n
 refine ⟨n+((sq m h n).more+1+s),by omega,by unfold turns;omega,?_⟩
 show (sq m h _).j = T
 rw [pK,qf,jy m _ _ rfl ok.d,e2]
 exact e
end PP
end
section
namespace PP
open PySem SetTable
theorem ni (xs:Array Nat) (hs:xs.toList.Pairwise (· < ·)) (j:Nat):∀ (f lo hi:Nat),hi - lo<=f->lo<=hi->hi<=xs.size->(∀ i (h:i < xs.size),i < lo->xs[i] < j)->(∀ i (h:i < xs.size),hi<=i->j<=xs[i]) ->
 below.go xs j f lo hi<=xs.size/\(∀ i (h:i < xs.size),i < below.go xs j f lo hi->xs[i] < j)/\∀ i (h:i < xs.size),below.go xs j f lo hi<=i->j<=xs[i]
 | 0,lo,hi,h1,h2,h3,h4,h5=>by
   have:hi = lo:=by omega
   subst this
   exact ⟨h3,h4,h5⟩
 | f+1,lo,hi,h1,h2,h3,h4,h5=>by
   have pw:=gC.mp hs
   unfold below.go
   by_cases hl:lo < hi
   . rw [if_pos hl]
     dsimp only
     have hm:(lo+hi) / 2 < xs.size:=by omega
     have e:xs.getD ((lo+hi) / 2) j = xs[(lo+hi) / 2]:=by simp [Array.getD,hm]
     rw [e]
     by_cases hc:xs[(lo+hi) / 2] < j
     . rw [if_pos hc]
       refine ni xs hs j f _ hi (by omega) (by omega) h3 (fun i h hi'=>?_) h5
       rcases dj i ((lo+hi) / 2) with z | z
       . have:=pw i ((lo+hi) / 2) (by simpa using h) (by simpa using hm) z
         simp at this
         omega
       . have:i = (lo+hi) / 2:=by omega
         subst this;exact hc
     . rw [if_neg hc]
       refine ni xs hs j f lo _ (by omega) (by omega) (by omega) h4 fun i h hi'=>?_
       rcases dj ((lo+hi) / 2) i with z | z
       . have:=pw ((lo+hi) / 2) i (by simpa using hm) (by simpa using h) z
         simp at this
         omega
       . have:i = (lo+hi) / 2:=by omega
         subst this;omega
   . rw [if_neg hl]
     exact ⟨by omega,h4,fun i h hi'=>h5 i h (by omega)⟩
theorem nh (xs:Array Nat) (hs:xs.toList.Pairwise (· < ·)) (j:Nat):below xs j<=xs.size/\(∀ i (h:i < xs.size),i < below xs j->xs[i] < j)/\∀ i (h:i < xs.size),below xs j<=i->j<=xs[i] :=
 ni xs hs j xs.size 0 xs.size (by omega) (by omega) (by omega) (fun i h z=>by omega) fun i h z=>by omega
theorem below_at {xs:Array Nat} (hs:xs.toList.Pairwise (· < ·)) {i j:Nat} (h:xs[i]? = some j):below xs j = i:=by
 obtain ⟨hi,e⟩:=cT.mp h
 obtain ⟨b1,b2,b3⟩:=nh xs hs j
 have pw:=gC.mp hs
 rcases kZ (below xs j) i with z | z | z
 . have q:=b3 (below xs j) (by omega) (ay _)
   have:=pw (below xs j) i (by simp;omega) (by simpa using hi) z
   simp at this
   omega
 . exact z
 . have:=b2 i hi z
   omega
structure TbI (t:SetTable) (hs:List Int):Prop where
 mok:mk t.mask
 dm:t.dummies = #[]
 srt:t.place.toList.Pairwise (· < ·)
 le:∀ j∈t.place.toList,j<=t.mask
 len:t.place.toList.length = hs.length
 few:hs.length<=t.mask
 rch:∀ (i j:Nat) (h:Int),t.place.toList[i]? = some j->hs[i]? = some h->∃ n,ps t.mask h n = j/\∀ k < n,ps t.mask h k∈t.place.toList
variable {t:SetTable} {hs:List Int}
theorem TbI.live (T:TbI t hs) {i j:Nat} (h:t.place.toList[i]? = some j):t.slot j = .live i:=by
 have h':t.place[i]? = some j:=by simpa using h
 unfold slot
 rw [below_at T.srt h']
 simp [h']
theorem TbI.empty (T:TbI t hs) {j:Nat} (h:j∉t.place.toList):t.slot j = .empty:=by
 unfold slot
 have:t.place[below t.place j]?≠some j:=fun e=>h (by
  have:=tq e
  exact uL.mpr this)
 dsimp only
 rw [if_neg (by simpa using this),T.dm]
 rfl
theorem mN {P:List Nat} {m:Nat} (hl:P.length<=m):∃ j,j<=m/\j∉P:=by
 apply fX
 intro hn
 have hall:∀ j∈List.range (m+1),j∈P:=fun j hj=>by
  apply fX
  intro hp
  exact hn ⟨j,by simpa using cO (by simpa using hj),hp⟩
 have key:∀ (l:List Nat) (P:List Nat),l.Nodup->(∀ x∈l,x∈P)->l.length<=P.length:=fun l=>by
  induction l with
  | nil=>intro P _ _;exact bA _
  | cons x l ih =>
    intro P hnd hs
    have hx:=hs x ak
    rw [eM] at hnd
    have:=ih (P.erase x) hnd.2 fun y hy=>(List.mem_erase_of_ne (fun e:y = x=>hnd.1 (by rw [<- e];exact hy))).mpr (hs y (av _ hy))
    rw [List.length_erase_of_mem hx] at this
    have:=List.length_pos_of_mem hx
    simp only [aw]
    omega
 have:=key _ P BR hall
 rw [fc] at this
 omega
theorem TbI.room (T:TbI t hs) (h:Int) (n:Nat):∃ N,n<=N/\N < n+10 * turns t.mask/\ps t.mask h N∉t.place.toList:=by
 obtain ⟨j,h1,h2⟩:=mN (P:=t.place.toList) (m:=t.mask) (by rw [T.len];exact T.few)
 obtain ⟨N,a,b,rfl⟩:=cov T.mok h n h1
 exact ⟨N,a,b,h2⟩
inductive PR (t:SetTable) (hs:List Int) (h:Int) (n:Nat):Met->Prop
 | empty (N:Nat) (a:n<=N) (b:ps t.mask h N∉t.place.toList) (c:∀ k,n<=k->k < N->ps t.mask h k∈t.place.toList/\∀ (i:Nat),t.place.toList[i]? = some (ps t.mask h k)->hs[i]?≠some h):PR t hs h n (.empty (ps t.mask h N) none)
 | cand (N i:Nat) (a:n<=N) (b:t.place.toList[i]? = some (ps t.mask h N)) (d:hs[i]? = some h) (c:∀ k,n<=k->k < N->ps t.mask h k∈t.place.toList/\∀ (i:Nat),t.place.toList[i]? = some (ps t.mask h k)->hs[i]?≠some h):PR t hs h n (.candidate (ps t.mask h N) i (sq t.mask h (N+1)))
theorem rT (T:TbI t hs) (h:Int) {ha:Nat->Int} (hh:∀ i g,hs[i]? = some g->ha i = g):∀ (f n:Nat),(∃ N,n<=N/\N < n+f/\ps t.mask h N∉t.place.toList)->∃ r,probe.go t ha h f (sq t.mask h n) = some r/\PR t hs h n r
 | 0,n,⟨N,a,b,_⟩=>by omega
 | f+1,n,⟨N,a,b,c⟩=>by
   unfold probe.go
   by_cases hp:ps t.mask h n∈t.place.toList
   . obtain ⟨i,hi⟩:=dg hp
     have hil:i < hs.length:=by
      have:=(aE.mp hi).1
      rw [T.len] at this
      exact this
     have eg:hs[i]? = some hs[i]:=ax hil
     rw [T.live hi]
     dsimp only
     rw [hh i _ eg]
     by_cases hc:hs[i] = h
     . rw [if_pos (by rw [hc];exact beq_self_eq_true h)]
       refine ⟨_,rfl,?_⟩
       rw [BG]
       exact .cand n i (ay _) hi (by rw [eg,hc]) fun k h1 h2=>by omega
     . rw [if_neg (by simpa using hc),BG]
       have hN:n≠N:=fun e=>c (by rw [<- e];exact hp)
       obtain ⟨r,e,pr⟩:=rT T h hh f (n+1) ⟨N,by omega,by omega,c⟩
       refine ⟨r,e,?_⟩
       have first:∀ k,n = k->ps t.mask h k∈t.place.toList/\∀ (i':Nat),t.place.toList[i']? = some (ps t.mask h k)->hs[i']?≠some h:=by
        rintro _ rfl
        refine ⟨hp,fun i' hi'=>?_⟩
        have:t.slot (ps t.mask h n) = .live i':=T.live hi'
        rw [T.live hi] at this
        cases this
        rw [eg]
        intro z
        exact hc (aX z)
       cases pr with
       | empty N' a b c'=>exact .empty N' (by omega) b fun k h1 h2=>if z:n = k then first k z else c' k (by omega) h2
       | cand N' i' a b d c'=>exact .cand N' i' (by omega) b d fun k h1 h2=>if z:n = k then first k z else c' k (by omega) h2
   . rw [T.empty hp]
     refine ⟨_,rfl,?_⟩
     rw [(uU t.mask h n).d]
     exact .empty n (ay _) hp fun k h1 h2=>by omega
theorem Ah (T:TbI t hs) (h:Int) {ha:Nat->Int} (hh:∀ i g,hs[i]? = some g->ha i = g) (n:Nat):∃ r,t.probe ha h (sq t.mask h n) = some r/\PR t hs h n r:=rT T h hh _ n (T.room h n)
end PP
end
section
namespace PP
open PySem SetTable
variable {t:SetTable} {hs:List Int}
noncomputable def jH {α:Type} (l:List α) (p:Nat) (x:α):List α:=l.take p++x::l.drop p
theorem jG {α:Type} {l:List α} {p i:Nat} {x y:α} (hp:p<=l.length) (h:(jH l p x)[i]? = some y):(i < p/\l[i]? = some y)\/(i = p/\y = x)\/(p < i/\l[i - 1]? = some y):=by
 unfold jH at h
 rcases kZ i p with z | z | z
 . rw [aM (by rw [bj];omega),cG z] at h
   exact .inl ⟨z,h⟩
 . subst z
   rw [aU (by rw [bj];omega),bj,EZ hp,Nat.sub_self] at h
   exact .inr (.inl ⟨rfl,by simpa using h.symm⟩)
 . rw [aU (by rw [bj];omega),bj,EZ hp] at h
   obtain ⟨k,rfl⟩:∃ k,i = p+1+k:=⟨i - p - 1,by omega⟩
   rw [show p+1+k - p = k+1 by omega,ti,List.getElem?_drop] at h
   exact .inr (.inr ⟨z,by rw [show p+1+k - 1 = p+k by omega];exact h⟩)
theorem mK {α:Type} {l:List α} {p:Nat} {x y:α}:y∈jH l p x↔y∈l\/y = x:=by
 unfold jH
 rw [cg,aQ]
 conv=>rhs;rw [<- iO p l,cg]
 constructor
 . rintro (h | h | h)
   . exact .inl (.inl h)
   . exact .inr h
   . exact .inl (.inr h)
 . rintro ((h | h) | h)
   . exact .inl h
   . exact .inr (.inr h)
   . exact .inr (.inl h)
theorem jF {α:Type} (l:List α) (p:Nat) (x:α):(jH l p x).length = l.length+1:=by
 unfold jH
 rw [az,aw,bj,fA]
 omega
theorem TbI.put (T:TbI t hs) {h:Int} {N:Nat} (hf:ps t.mask h N∉t.place.toList) (hr:∀ k < N,ps t.mask h k∈t.place.toList) (fw:hs.length+1<=t.mask) :
 TbI (t.put (ps t.mask h N)).1 (jH hs (t.put (ps t.mask h N)).2 h)/\(t.put (ps t.mask h N)).2<=hs.length/\(t.put (ps t.mask h N)).1.led = t.led/\(t.put (ps t.mask h N)).1.plain = t.plain/\(t.put (ps t.mask h N)).1.mask = t.mask:=by
 generalize hj:ps t.mask h N = j at *
 have pl:(insertAt t.place (below t.place j) j).toList = jH t.place.toList (below t.place j) j:=toList_insertAt _ _ _
 have dm:(if has t.dummies j = true then eraseAt t.dummies (below t.dummies j) else t.dummies) = #[]:=by rw [T.dm];rfl
 obtain ⟨b1,b2,b3⟩:=nh t.place T.srt j
 have bl:below t.place j<=t.place.toList.length:=by simpa using b1
 have len:=T.len
 refine ⟨⟨T.mok,dm,?_,?_,?_,?_,?_⟩,by rw [<- len];exact bl,rfl,rfl,rfl⟩
 . show (insertAt t.place (below t.place j) j).toList.Pairwise _
   rw [pl]
   unfold jH
   have pw:=T.srt
   rw [<- iO (below t.place j) t.place.toList,wo] at pw
   obtain ⟨p1,p2,p3⟩:=pw
   refine wo.mpr ⟨p1,List.pairwise_cons.mpr ⟨fun y hy=>?_,p2⟩,fun x hx y hy=>?_⟩
   . obtain ⟨k,hk,e⟩:=wq.mp hy
     rw [fA] at hk
     rw [List.getElem_drop] at e
     have:=b3 (below t.place j+k) (by simp at hk;omega) (by omega)
     have ne:j≠y:=fun z=>hf (by rw [z];exact List.mem_of_mem_drop hy)
     simp at e
     omega
   . obtain ⟨k,hk,e⟩:=wq.mp hx
     rw [bj] at hk
     rw [List.getElem_take] at e
     have:=b2 k (by simp at hk;omega) (by omega)
     simp at e
     rcases aQ.mp hy with z | z
     . omega
     . exact p3 x hx y z
 . show ∀ y∈(insertAt t.place (below t.place j) j).toList,_
   rw [pl]
   intro y hy
   rcases mK.mp hy with z | z
   . exact T.le y z
   . rw [z,<- hj];exact (uU t.mask h N).j
 . show (insertAt t.place (below t.place j) j).toList.length = _
   rw [pl,jF,jF,len]
 . rw [jF];exact fw
 . show ∀ (i j':Nat) (h':Int),(insertAt t.place (below t.place j) j).toList[i]? = some j'->(jH hs (below t.place j) h)[i]? = some h'->∃ n,ps t.mask h' n = j'/\∀ k < n,ps t.mask h' k∈(insertAt t.place (below t.place j) j).toList
   rw [pl]
   intro i j' h' e1 e2
   have old:∀ i',t.place.toList[i']? = some j'->hs[i']? = some h'->∃ n,ps t.mask h' n = j'/\∀ k < n,ps t.mask h' k∈jH t.place.toList (below t.place j) j:=fun i' a b=>by
    obtain ⟨n,n1,n2⟩:=T.rch i' j' h' a b
    exact ⟨n,n1,fun k hk=>mK.mpr (.inl (n2 k hk))⟩
   rcases jG bl e1 with ⟨z,a⟩ | ⟨z,a⟩ | ⟨z,a⟩
   . rcases jG (by rw [<- len];exact bl) e2 with ⟨_,b⟩ | ⟨z',b⟩ | ⟨z',b⟩
     . exact old i a b
     . omega
     . omega
   . rcases jG (by rw [<- len];exact bl) e2 with ⟨z',b⟩ | ⟨z',b⟩ | ⟨z',b⟩
     . omega
     . subst a b
       exact ⟨N,hj,fun k hk=>mK.mpr (.inl (hr k hk))⟩
     . omega
   . rcases jG (by rw [<- len];exact bl) e2 with ⟨z',b⟩ | ⟨z',b⟩ | ⟨_,b⟩
     . omega
     . omega
     . exact old (i - 1) a b
end PP
end
section
namespace PP
open PySem SetTable
structure OW (m:Nat) (owner:Array (Option Nat)) (pre:List Int) (js:List Nat):Prop where
 sz:owner.size = m+1
 jl:js.length = pre.length
 own:∀ k j:Nat,js[k]? = some j->owner[j]? = some (some k)
 inv:∀ j k:Nat,owner[j]? = some (some k)->js[k]? = some j
 rch:∀ (i j:Nat) (h:Int),pre[i]? = some h->js[i]? = some j->∃ n,ps m h n = j/\∀ k < n,ps m h k∈js
theorem AI (m:Nat):∀ (k:Nat) (p:Probe),k<=p.more->(itA m k p).j = p.j+k
 | 0,p,_=>rfl
 | k+1,p,h=>by
   show (itA m k (adv m p)).j = _
   unfold adv
   rw [if_pos (by omega),AI m k _ (by show k<=p.more - 1;omega)]
   show p.j+1+k = _
   omega
theorem vS {m:Nat} {owner:Array (Option Nat)} (hz:owner.size = m+1) (h:Int):∀ (f n:Nat) (x:Nat × Nat),sq m h n = lp m x->x.1<=m->(∃ c,c < f/\owner[(iw m c x).1]? = some none) ->
 ∃ N,n<=N/\layClean.free m owner f x.1 x.2 = some (ps m h N)/\owner[ps m h N]? = some none/\∀ k,n<=k->k < N->∃ v,owner[ps m h k]? = some (some v)
 | 0,n,x,e,hx,⟨c,h1,_⟩=>by omega
 | f+1,n,x,e,hx,⟨c,h1,h2⟩=>by
   have rl:=ox hx
   have rg:=oy m x.1
   have pos:∀ k,k < runEnd m x.1+1 - x.1->ps m h (n+k) = x.1+k:=fun k hk=>by
    show (sq m h (n+k)).j = _
    rw [pK,e,AI m k _ (by show k<=runEnd m x.1 - x.1;omega)]
    rfl
   have val:∀ k,k < runEnd m x.1+1 - x.1->owner[x.1+k]? = some (owner.getD (x.1+k) (some 0)):=fun k hk=>by
    have:x.1+k < owner.size:=by omega
    simp [Array.getD,this]
   unfold layClean.free
   cases q:(List.range (runEnd m x.1+1 - x.1)).find? fun k=>(owner.getD (x.1+k) (some 0)).isNone with
   | some k =>
     rw [List.find?_range_eq_some] at q
     obtain ⟨q1,q2,q3⟩:=q
     have hk:k < runEnd m x.1+1 - x.1:=by simpa using q2
     refine ⟨n+k,by omega,by rw [pos k hk],?_,fun k' h1 h2=>?_⟩
     . rw [pos k hk,val k hk,cX.mp q1]
     . obtain ⟨d,rfl⟩:∃ d,k' = n+d:=⟨k' - n,by omega⟩
       have:=q3 d (by omega)
       rw [pos d (by omega),val d (by omega)]
       cases z:owner.getD (x.1+d) (some 0) with
       | none=>rw [z] at this;cases this
       | some v=>exact ⟨v,rfl⟩
   | none =>
     rw [List.find?_eq_none] at q
     have occ:∀ k,k < runEnd m x.1+1 - x.1->∃ v,owner[x.1+k]? = some (some v):=fun k hk=>by
      have:=q k (by simpa using hk)
      rw [val k hk]
      cases z:owner.getD (x.1+k) (some 0) with
      | none=>rw [z] at this;exact absurd rfl this
      | some v=>exact ⟨v,rfl⟩
     have nxt:sq m h (n+(runEnd m x.1 - x.1+1)) = lp m (leap m x.1 x.2):=by
      rw [pK,e]
      exact jy m _ (lp m x) rfl rfl
     cases c with
     | zero =>
       obtain ⟨v,hv⟩:=occ 0 (by omega)
       rw [show (iw m 0 x).1 = x.1+0 from rfl,hv] at h2
       cases h2
     | succ c =>
       obtain ⟨N,a1,a2,a3,a4⟩:=vS hz h f (n+(runEnd m x.1 - x.1+1)) (leap m x.1 x.2) nxt (cO (gz _ (iF _))) ⟨c,by omega,h2⟩
       refine ⟨N,by omega,a2,a3,fun k h1 h2=>?_⟩
       by_cases hk:k < n+(runEnd m x.1 - x.1+1)
       . obtain ⟨d,rfl⟩:∃ d,k = n+d:=⟨k - n,by omega⟩
         rw [pos d (by omega)]
         exact occ d (by omega)
       . exact a4 k (by omega) h2
noncomputable def HM (m:Nat) (acc:Option (Array (Option Nat) × Nat)) (h:Int):Option (Array (Option Nat) × Nat):=do
 let (owner,k) <- acc
 let j <- layClean.free m owner (turns m) (bits h % (m+1)) (bits h)
 pure (owner.setIfInBounds j (some k),k+1)
theorem OW.js_le {m:Nat} {owner:Array (Option Nat)} {pre:List Int} {js:List Nat} (W:OW m owner pre js) {j:Nat} (h:j∈js):j<=m:=by
 obtain ⟨k,hk⟩:=dg h
 have:=(cT.mp (W.own k j hk)).1
 rw [W.sz] at this
 omega
theorem OW.occ {m:Nat} {owner:Array (Option Nat)} {pre:List Int} {js:List Nat} (W:OW m owner pre js) {j:Nat}:(∃ v,owner[j]? = some (some v))↔j∈js :=
 ⟨fun ⟨v,hv⟩=>aO (W.inv j v hv),fun h=>by
   obtain ⟨k,hk⟩:=dg h
   exact ⟨k,W.own k j hk⟩⟩
theorem AR {m:Nat} (hm:mk m) {owner:Array (Option Nat)} {pre:List Int} {js:List Nat} (W:OW m owner pre js) (hl:pre.length<=m) (h:Int):∃ owner' js',HM m (some (owner,pre.length)) h = some (owner',pre.length+1)/\OW m owner' (pre++[h]) js':=by
 obtain ⟨T,hT,hn⟩:=mN (P:=js) (m:=m) (by rw [W.jl];exact hl)
 have hx:(bits h % (m+1),bits h).1<=m:=cO (gz _ (iF _))
 obtain ⟨c,c1,c2⟩:=oK hm hx (wa h) hT
 have fr:owner[T]? = some none:=by
  have:T < owner.size:=by rw [W.sz];omega
  cases q:owner[T] with
  | none=>rw [bF this,q]
  | some v=>exact absurd (W.occ.mp ⟨v,by rw [bF this,q]⟩) hn
 obtain ⟨N,_,e,free,occ⟩:=vS W.sz h (turns m) 0 (bits h % (m+1),bits h) rfl hx ⟨c,by unfold turns;omega,by rw [c2];exact fr⟩
 have hj:=(cT.mp free).1
 refine ⟨owner.setIfInBounds (ps m h N) (some pre.length),js++[ps m h N],?_,⟨?_,?_,fun k j hk=>?_,fun j k hk=>?_,fun i j h' h1 h2=>?_⟩⟩
 . show (Option.bind (layClean.free m owner (turns m) (bits h % (m+1)) (bits h)) fun j=>some (owner.setIfInBounds j (some pre.length),pre.length+1)) = _
   rw [e]
   rfl
 . rw [Array.size_setIfInBounds,W.sz]
 . rw [az,az,W.jl];rfl
 . rcases dj k js.length with z | z
   . rw [aM z] at hk
     have ho:=W.own k j hk
     rw [kN (fun e=>by rw [e,ho] at free;cases free)]
     exact ho
   . rw [aU z] at hk
     have k0:k - js.length = 0:=by
      rcases kA (k - js.length) with q | q
      . exact q
      . rw [cV (by simp;omega)] at hk;cases hk
     rw [k0] at hk
     have:ps m h N = j:=by simpa using hk
     rw [<- this,iQ hj,show k = pre.length by have:=W.jl;omega]
 . by_cases z:ps m h N = j
   . rw [<- z,iQ hj] at hk
     have:pre.length = k:=aX (aX hk)
     rw [<- this,<- W.jl,<- z]
     simp
   . rw [kN z] at hk
     have:=W.inv j k hk
     rw [aM (aE.mp this).1]
     exact this
 . rcases dj i pre.length with z | z
   . rw [aM z] at h1
     rw [aM (by rw [W.jl];exact z)] at h2
     obtain ⟨n,n1,n2⟩:=W.rch i j h' h1 h2
     exact ⟨n,n1,fun k hk=>fJ _ (n2 k hk)⟩
   . rw [aU z] at h1
     rw [aU (by rw [W.jl];exact z),W.jl] at h2
     have k0:i - pre.length = 0:=by
      rcases kA (i - pre.length) with q | q
      . exact q
      . rw [cV (by simp;omega)] at h1;cases h1
     rw [k0] at h1 h2
     have a:h = h':=by simpa using h1
     have b:ps m h N = j:=by simpa using h2
     subst a b
     exact ⟨N,rfl,fun k hk=>fJ _ (W.occ.mp (occ k (bA _) hk))⟩
theorem vH {m:Nat} (hm:mk m):∀ (rest pre:List Int) (owner:Array (Option Nat)) (js:List Nat),OW m owner pre js->(pre++rest).length<=m->∃ owner' js',rest.foldl (HM m) (some (owner,pre.length)) = some (owner',(pre++rest).length)/\OW m owner' (pre++rest) js'
 | [],pre,owner,js,W,_=>⟨owner,js,by rw [cP];rfl,by rw [cP];exact W⟩
 | h::rest,pre,owner,js,W,hl=>by
   obtain ⟨o1,j1,e1,W1⟩:=AR hm W (by rw [az] at hl;omega) h
   have e:pre++h::rest = (pre++[h])++rest:=by simp
   rw [e] at hl ⊢
   obtain ⟨o2,j2,e2,W2⟩:=vH hm rest (pre++[h]) o1 j1 W1 hl
   refine ⟨o2,j2,?_,W2⟩
   rw [eO,e1]
   rw [az,cb] at e2
   exact e2
theorem Bi {α β:Type} {f:α->Option β}:∀ {l:List α},(∀ k∈l,(f k).isSome = true)->∀ i:Nat,(l.filterMap f)[i]? = (l[i]?).bind f
 | [],_,i=>by simp
 | x::l,h,i=>by
   obtain ⟨y,hy⟩:=eB.mp (h x ak)
   rw [gL hy]
   cases i with
   | zero=>simp [hy]
   | succ i=>simpa using Bi (fun k hk=>h k (av _ hk)) i
theorem DT {m:Nat} (hm:mk m) (fg mv:Nat) (led pn:Bool) (hs:Array Int) (hl:hs.size<=m):∃ t order,laid m fg mv led pn hs = some (t,order)/\order.toList.Perm (List.range hs.size)/\TbI t (order.toList.filterMap (hs[·]?))/\t.led = led/\t.plain = pn/\t.mask = m:=by
 have W0:OW m (Array.replicate (m+1) none) [] []:=by
  refine ⟨by simp,rfl,fun k j h=>by simp at h,fun j k h=>?_,fun i j h a b=>by simp at a⟩
  rw [Array.getElem?_replicate] at h
  split at h
  . cases h
  . cases h
 obtain ⟨owner,js,e,W⟩:=vH hm hs.toList [] _ _ W0 (by simpa using hl)
 rw [nB] at W
 have ec:layClean m hs = some owner:=by
  unfold layClean
  rw [<- Array.foldl_toList]
  show Option.map (·.1) (hs.toList.foldl (HM m) (some (Array.replicate (m+1) none,0))) = _
  rw [show (0:Nat) = ([]:List Int).length from rfl,e]
  rfl
 generalize hg:(fun j:Nat=>(owner.getD j none).map (j,·)) = g
 have gi:∀ (j:Nat) (p:Nat × Nat),g j = some p->p.1 = j/\js[p.2]? = some j:=fun j p h=>by
  rw [<- hg] at h
  obtain ⟨k,hk,rfl⟩:=aL.mp h
  refine ⟨rfl,W.inv j k ?_⟩
  by_cases z:j < owner.size
  . simp [Array.getD,z] at hk
    rw [bF z,hk]
  . simp [Array.getD,z] at hk
 have gj:∀ (j k:Nat),js[k]? = some j->g j = some (j,k):=fun j k h=>by
  have:=W.own k j h
  obtain ⟨z,e⟩:=cT.mp this
  rw [<- hg]
  simp [Array.getD,z,e]
 have pl:((List.range (m+1)).filterMap g).Pairwise fun a b=>a.1 < b.1/\a.2≠b.2:=by
  refine List.Pairwise.filterMap g (R:=(· < ·)) (fun a a' h b hb b' hb'=>?_) List.pairwise_lt_range
  obtain ⟨a1,a2⟩:=gi a b hb
  obtain ⟨b1,b2⟩:=gi a' b' hb'
  refine ⟨by rw [a1,b1];exact h,fun z=>?_⟩
  rw [z,b2] at a2
  have:=aX a2
  omega
 generalize hL:(List.range (m+1)).filterMap g = L at pl
 have memL:∀ (j k:Nat),(j,k)∈L↔js[k]? = some j:=fun j k=>by
  rw [<- hL,jR]
  constructor
  . rintro ⟨a,_,h⟩
    obtain ⟨a1,a2⟩:=gi a _ h
    rw [<- a1] at a2
    exact a2
  . intro h
    exact ⟨j,by have:=W.js_le (aO h);simp;omega,gj j k h⟩
 have po:(L.map (·.2)).Perm (List.range hs.size):=by
  refine (List.perm_ext_iff_of_nodup ?_ BR).mpr fun k=>?_
  . exact kJ.mpr (pl.imp fun h=>h.2)
  . rw [aR,dR]
    have jl:js.length = hs.size:=by rw [W.jl];simp
    constructor
    . rintro ⟨⟨j,k'⟩,h,rfl⟩
      have:=(aE.mp ((memL j k').mp h)).1
      omega
    . intro h
      exact ⟨(js[k],k),(memL _ _).mpr (ax _),rfl⟩
 have len:L.length = hs.size:=by
  have:=po.length_eq
  simpa using this
 have hsm:∀ k∈L.map (·.2),(hs[k]?).isSome = true:=fun k hk=>by
  have:=po.mem_iff.mp hk
  rw [dR] at this
  simp [this]
 have memP:∀ j,j∈L.map (·.1)↔j∈js:=fun j=>by
  rw [aR]
  constructor
  . rintro ⟨⟨j',k⟩,h,rfl⟩
    exact aO ((memL _ _).mp h)
  . intro h
    obtain ⟨k,hk⟩:=dg h
    exact ⟨(j,k),(memL j k).mpr hk,rfl⟩
 refine ⟨{ mask:=m,place:=(L.map (·.1)).toArray,dummies := #[],finger:=fg,led:=led,moves:=mv,plain:=pn },(L.map (·.2)).toArray,?_,po,⟨hm,rfl,?_,fun j hj=>W.js_le ((memP j).mp hj),?_,?_,fun i j h h1 h2=>?_⟩,rfl,rfl,rfl⟩
 . unfold laid
   rw [ec]
   show some _ = _
   rw [hg,hL]
 . exact kJ.mpr (pl.imp fun h=>h.1)
 . show (L.map (·.1)).length = _
   rw [aj,len]
   have:=congrArg List.length (show (L.map (·.2)).filterMap (hs[·]?) = (L.map (·.2)).filterMap (hs[·]?) from rfl)
   have key:∀ l:List Nat,(∀ k∈l,(hs[k]?).isSome = true)->(l.filterMap (hs[·]?)).length = l.length:=fun l=>by
    induction l with
    | nil=>intro _;rfl
    | cons x l ih =>
      intro h
      obtain ⟨y,hy⟩:=eB.mp (h x ak)
      rw [gL hy,aw,aw,ih fun k hk=>h k (av _ hk)]
   rw [key _ hsm,aj,len]
 . have key:∀ l:List Nat,(l.filterMap (hs[·]?)).length<=l.length:=fun l=>List.length_filterMap_le _ _
   have:=key (L.map (·.2))
   rw [aj,len] at this
   exact bK this hl
 . have h1':(L.map (·.1))[i]? = some j:=h1
   rw [Bi hsm] at h2
   rw [aS] at h1' h2
   cases q:L[i]? with
   | none=>rw [q] at h1';cases h1'
   | some p =>
     rw [q] at h1' h2
     obtain ⟨j',k⟩:=p
     have e1:j' = j:=by simpa using h1'
     subst e1
     have e2:hs[k]? = some h:=by simpa using h2
     obtain ⟨n,n1,n2⟩:=W.rch k j' h (by simpa using e2) ((memL j' k).mp (aO q))
     exact ⟨n,n1,fun k' hk'=>(memP _).mpr (n2 k' hk')⟩
end PP
end
section
namespace PP
open PySem L2 PyProof.Rows PySem.SeqAt
mutual
noncomputable def hD (w:World):D->Int
 | .str x=>hashStr w x
 | .int i=>hashInt i
 | .tup ds=>reduceHash (Builtin.Tuple.tupleHashOf (hDL w ds))
 | _=>0
noncomputable def hDL (w:World):List D->List Int
 | []=>[]
 | d::ds=>hD w d::hDL w ds
end
mutual
noncomputable def nD:D->Nat
 | .tup ds=>nDL ds+1
 | _=>1
noncomputable def nDL:List D->Nat
 | []=>0
 | d::ds=>nD d+nDL ds
end
variable [Tbs]
section
variable {prog:Program} {w:World}
theorem zu {A:Around} {E:Value->Shared->Prop} {s:Shared} {a:Addr} {its:Array Value} {hs:List Int} {k:Nat} {Q:Int->Shared->Prop} (hu:A.units < cLine) (ht:s.heap.IsTuple a its)
 (loop:∀ (Q':Array Int->Shared->Prop) (E':Value->Shared->Prop),(∀ b:Array Int,b.toList = hs->Q' b { s with toks:=s.toks+k })->wpAny (model prog w) A.in1 (forIn its.toList (#[]:Array Int) fun x b=>do
   let h <- pyHash x
   pure (.yield (b.push h))) Q' E' s)
 (h:Q (reduceHash (Builtin.Tuple.tupleHashOf hs)) { s with toks:=s.toks+(k+1) }):wpAny (model prog w) A (pyHash (.ref a)) Q E s:=by
 obtain ⟨o,ho,hc,n,hd⟩:=ht
 have hT:s.TypeIs (.ref a) "tuple":=⟨o,ho,hc⟩
 unfold pyHash
 first | unfold pyHashByItsType | skip
 first | refine ag (wpAny_cRoomFor_or (.inr hu) ?_) | skip
 refine ag (gw hT PySem.F.slot_tuple_hash.lookup ?_)
 show wpAny _ _ (if (some (Value.builtin "tuple.__hash__") == some Value.none) = true then _ else _) Q E s
 rw [if_neg (by rw [beq_builtin_none];exact ai)]
 refine ag (gw hT PySem.F.slot_tuple_hash.lookup ?_)
 show wpAny _ _ (callSpecialIfBoundUnlessNone? (.ref a) "__hash__" _ >>= _) Q E s
 refine ag (wpAny_callSpecialIfBoundUnlessNone?_slot hT PySem.F.slot_tuple_hash (cL PySem.F.slot_tuple_hash hT PySem.F.entry_tuple_hash ?_ (PySem.F.args_tuple_hash_1 _)))
 show wpAny _ _ (Builtin.Tuple.tupleItemsOf (.ref a) >>= _) _ _ s
 refine ag (wpAny_tupleItemsOf ho hd ?_)
 refine ag ?_
 rw [<- fY]
 refine loop _ _ fun b hb=>?_
 show wpAny _ _ (retInt (Builtin.Tuple.tupleHashOf b.toList)) _ _ _
 rw [hb]
 refine wpAny_ret_mkInt ?_
 show wpAny _ _ (if (decide (-(2:Int) ^ 63<=Builtin.Tuple.tupleHashOf hs) && decide (Builtin.Tuple.tupleHashOf hs < 2 ^ 63)) = true then _ else _) Q E _
 unfold reduceHash at h
 by_cases hr:(decide (-(2:Int) ^ 63<=Builtin.Tuple.tupleHashOf hs) && decide (Builtin.Tuple.tupleHashOf hs < 2 ^ 63)) = true
 . rw [if_pos hr]
   rw [if_pos hr] at h
   exact ar (by simpa [sZ] using h)
 . rw [if_neg hr]
   rw [if_neg hr] at h
   exact ag (IL (ar (by simpa [sZ] using h)))
mutual
theorem Bf:∀ (d:D) (A:Around) (E:Value->Shared->Prop) (s:Shared) (v:Value) (Q:Int->Shared->Prop),hb d = true->RdV s.heap d v->A.units+dep d < cLine->Q (hD w d) { s with toks:=s.toks+nD d }->wpAny (model prog w) A (pyHash v) Q E s
 | .str x,A,E,s,v,Q,_,r,_,q=>by
   unfold RdV at r;obtain ⟨t,rfl⟩:=r
   unfold hD nD at q
   exact wpAny_pyHash_str q
 | .int x,A,E,s,v,Q,_,r,_,q=>by
   unfold RdV at r;obtain ⟨t,rfl⟩:=r
   unfold hD nD at q
   exact wpAny_pyHash_int q
 | .tup ds,A,E,s,v,Q,h,r,hu,q=>by
   unfold RdV at r;obtain ⟨a,its,rfl,ht,rl⟩:=r
   unfold hb at h
   unfold hD nD at q
   unfold dep at hu
   refine zu (hs:=hDL w ds) (k:=nDL ds) (by omega) ht (fun Q' E' q'=>?_) q
   exact vP ds A.in1 E' s its.toList #[] Q' h rl (by show A.units+1+bI ds < cLine;omega) (by simpa using q')
 | .non,_,_,_,_,_,h,_,_,_=>by unfold hb at h;cases h
 | .bl _,_,_,_,_,_,h,_,_,_=>by unfold hb at h;cases h
 | .lst _,_,_,_,_,_,h,_,_,_=>by unfold hb at h;cases h
 | .fn _ _,_,_,_,_,_,h,_,_,_=>by unfold hb at h;cases h
 | .dct _ _,_,_,_,_,_,h,_,_,_=>by unfold hb at h;cases h
theorem vP:∀ (ds:List D) (A:Around) (E:Value->Shared->Prop) (s:Shared) (vs:List Value) (b0:Array Int) (Q:Array Int->Shared->Prop),hbL ds = true->RdL s.heap ds vs->A.units+bI ds < cLine ->
 (∀ b:Array Int,b.toList = b0.toList++hDL w ds->Q b { s with toks:=s.toks+nDL ds })->wpAny (model prog w) A (forIn vs b0 fun x b=>do
   let h <- pyHash x
   pure (.yield (b.push h))) Q E s
 | [],A,E,s,vs,b0,Q,_,r,_,q=>by
   unfold RdL at r;subst r
   unfold hDL nDL at q
   exact ar (q b0 (by simp))
 | d::ds,A,E,s,vs,b0,Q,h,r,hu,q=>by
   unfold RdL at r;obtain ⟨u,us,rfl,r1,r2⟩:=r
   unfold hbL at h
   rw [aa] at h
   unfold bI at hu
   unfold hDL nDL at q
   rw [fR]
   refine ag (ag (Bf d A E s u _ h.1 r1 (by omega) (ar ?_)))
   refine vP ds A E _ us _ Q h.2 r2 (by omega) fun b hb=>?_
   have:=q b (by rw [hb];simp)
   simpa [sZ] using this
end
end
end PP
end
section
namespace PP
open PySem L2 PyProof.Rows PySem.SeqAt
variable [Tbs]
section
variable {prog:Program} {w:World} {A:Around} {E:Value->Shared->Prop}
theorem jV {s:Shared} {a:Addr} {its:Array Value} {Q:Option (Array Value)->Shared->Prop} (ht:s.heap.IsTuple a its) (h:Q (some its) s):wpAny (model prog w) A (seqItems? (.ref a)) Q E s:=by
 obtain ⟨o,ho,hc,n,hd⟩:=ht
 exact wpAny_seqItems ho hd h
mutual
theorem pV:∀ (d:D) (n:Nat) (s:Shared) (v:Value) (Q:Bool->Shared->Prop),hb d = true->RdV s.heap d v->dep d<=n->Q true s->wpAny (model prog w) A (eqIsQuiet n v) Q E s
 | .str x,n,s,v,Q,_,r,_,q=>by
   unfold RdV at r;obtain ⟨t,rfl⟩:=r
   rw [IU n rfl]
   exact ar q
 | .int x,n,s,v,Q,_,r,_,q=>by
   unfold RdV at r;obtain ⟨t,rfl⟩:=r
   rw [IU n rfl]
   exact ar q
 | .tup ds,0,s,v,Q,h,r,hu,q=>by unfold dep at hu;omega
 | .tup ds,n+1,s,v,Q,h,r,hu,q=>by
   unfold RdV at r;obtain ⟨a,its,rfl,ht,rl⟩:=r
   unfold hb at h
   unfold dep at hu
   have ht':=ht
   obtain ⟨o,ho,hc,k,hd⟩:=ht'
   have hT:s.TypeIs (.ref a) "tuple":=⟨o,ho,hc⟩
   unfold eqIsQuiet
   refine ag (gw hT PySem.F.slot_tuple_eq.lookup ?_)
   show wpAny _ _ (isInstance (.ref a) (.type "tuple") >>= _) _ _ s
   refine ag (qF hT isSubtype_tuple_tuple ?_)
   simp only [cH,ae,if_false]
   refine ag (jV ht ?_)
   refine ag ?_
   show wpAny _ _ (forIn its _ _) _ _ s
   rw [<- fY]
   refine rP ds n s its.toList _ h rl (by omega) ?_
   exact ar q
 | .non,_,_,_,_,h,_,_,_=>by unfold hb at h;cases h
 | .bl _,_,_,_,_,h,_,_,_=>by unfold hb at h;cases h
 | .lst _,_,_,_,_,h,_,_,_=>by unfold hb at h;cases h
 | .fn _ _,_,_,_,_,h,_,_,_=>by unfold hb at h;cases h
 | .dct _ _,_,_,_,_,h,_,_,_=>by unfold hb at h;cases h
theorem rP:∀ (ds:List D) (n:Nat) (s:Shared) (vs:List Value) (Q:Option Bool × Unit->Shared->Prop),hbL ds = true->RdL s.heap ds vs->bI ds<=n->Q (none,()) s ->
 wpAny (model prog w) A (forIn vs ((none,()):Option Bool × Unit) fun y r=>do
  if (!(<- eqIsQuiet n y)) = true then pure (.done (some false,())) else pure (.yield (none,()))) Q E s
 | [],n,s,vs,Q,_,r,_,q=>by
   unfold RdL at r;subst r
   exact ar q
 | d::ds,n,s,vs,Q,h,r,hu,q=>by
   unfold RdL at r;obtain ⟨u,us,rfl,r1,r2⟩:=r
   unfold hbL at h
   rw [aa] at h
   unfold bI at hu
   rw [fR]
   refine ag (ag (pV d n s u _ h.1 r1 (by omega) ?_))
   simp only [cH,ae,if_false]
   exact ar (rP ds n s us Q h.2 r2 (by omega) q)
end
mutual
theorem pY:∀ (d:D) (n:Nat) (s:Shared) (v:Value) (Q:Bool->Shared->Prop),hb d = true->RdV s.heap d v->dep d<=n->Q false s->wpAny (model prog w) A (ofAClassStatement n v) Q E s
 | .str x,n,s,v,Q,_,r,_,q=>by
   unfold RdV at r;obtain ⟨t,rfl⟩:=r
   unfold ofAClassStatement
   exact ar q
 | .int x,n,s,v,Q,_,r,_,q=>by
   unfold RdV at r;obtain ⟨t,rfl⟩:=r
   unfold ofAClassStatement
   exact ar q
 | .tup ds,0,s,v,Q,h,r,hu,q=>by unfold dep at hu;omega
 | .tup ds,n+1,s,v,Q,h,r,hu,q=>by
   unfold RdV at r;obtain ⟨a,its,rfl,ht,rl⟩:=r
   unfold hb at h
   unfold dep at hu
   have ht':=ht
   obtain ⟨o,ho,hc,k,hd⟩:=ht'
   have hT:s.TypeIs (.ref a) "tuple":=⟨o,ho,hc⟩
   unfold ofAClassStatement
   refine ag (nZ hT ?_)
   dsimp only
   rw [if_pos (by decide)]
   refine ag (ar ?_)
   simp only [cH,ae,if_false]
   refine ag (jV ht ?_)
   dsimp only
   refine ag ?_
   show wpAny _ _ (forIn its _ _) _ _ s
   rw [<- fY]
   refine rV ds n s its.toList _ h rl (by omega) ?_
   exact ar q
 | .non,_,_,_,_,h,_,_,_=>by unfold hb at h;cases h
 | .bl _,_,_,_,_,h,_,_,_=>by unfold hb at h;cases h
 | .lst _,_,_,_,_,h,_,_,_=>by unfold hb at h;cases h
 | .fn _ _,_,_,_,_,h,_,_,_=>by unfold hb at h;cases h
 | .dct _ _,_,_,_,_,h,_,_,_=>by unfold hb at h;cases h
theorem rV:∀ (ds:List D) (n:Nat) (s:Shared) (vs:List Value) (Q:Option Bool × Unit->Shared->Prop),hbL ds = true->RdL s.heap ds vs->bI ds<=n->Q (none,()) s ->
 wpAny (model prog w) A (forIn vs ((none,()):Option Bool × Unit) fun y r=>do
  if (<- ofAClassStatement n y) = true then pure (.done (some true,())) else pure (.yield (none,()))) Q E s
 | [],n,s,vs,Q,_,r,_,q=>by
   unfold RdL at r;subst r
   exact ar q
 | d::ds,n,s,vs,Q,h,r,hu,q=>by
   unfold RdL at r;obtain ⟨u,us,rfl,r1,r2⟩:=r
   unfold hbL at h
   rw [aa] at h
   unfold bI at hu
   rw [fR]
   refine ag (ag (pY d n s u _ h.1 r1 (by omega) ?_))
   simp only [ae,if_false]
   exact ar (rV ds n s us Q h.2 r2 (by omega) q)
end
theorem dG {d:D} (h:hok d = true):hb d = true/\dep d<=8/\∃ x ds,d = .tup (.str x::ds):=by
 unfold hok at h
 split at h
 . rename_i x ds
   rw [aa,decide_eq_true_eq] at h
   refine ⟨by simp [hb,hbL,h.1],?_,x,ds,rfl⟩
   have:dep (.str x) = 0:=by unfold dep;rfl
   unfold dep bI
   omega
 . cases h
theorem vM {d:D} (h:hok d = true):dep d < 100000:=by
 obtain ⟨_,h2,_⟩:=dG h
 omega
theorem lA {h:Heap} {d:D} {v:Value} (k:hok d = true) (r:RdV h d v):∃ a,v = .ref a:=by
 obtain ⟨_,_,x,ds,rfl⟩:=dG k
 unfold RdV at r
 obtain ⟨a,its,rfl,_⟩:=r
 exact ⟨a,rfl⟩
theorem yg {d:D} {s:Shared} {v:Value} {Q:Bool->Shared->Prop} (k:hok d = true) (r:RdV s.heap d v) (q:Q false s):wpAny (model prog w) A (hashByValue 8 v) Q E s:=by
 obtain ⟨_,_,x,ds,rfl⟩:=dG k
 unfold RdV at r
 obtain ⟨a,its,rfl,ht,rl⟩:=r
 unfold RdL at rl
 obtain ⟨u,us,eu,r1,_⟩:=rl
 unfold RdV at r1
 obtain ⟨t,rfl⟩:=r1
 have ht':=ht
 obtain ⟨o,ho,hc,n,hd⟩:=ht'
 have hT:s.TypeIs (.ref a) "tuple":=⟨o,ho,hc⟩
 unfold hashByValue
 refine ag (gw hT PySem.F.slot_tuple_hash.lookup ?_)
 show wpAny _ _ (seqItems? (.ref a) >>= _) _ _ s
 refine ag (jV ht ?_)
 refine ag ?_
 show wpAny _ _ (forIn its _ _) _ _ s
 rw [<- fY,eu,fR]
 refine ag (ag (ia (a:=false) (by unfold hashByValue;rfl) ?_))
 simp only [Bool.not_false,if_true]
 exact ar (ar (ar q))
end
end PP
end
section
namespace PP
open PySem L2 PyProof.Rows
section
variable {prog:Program} {w:World} {A:Around} {E:Value->Shared->Prop} {s:Shared}
theorem uY {a:Addr} {es es':Array (Int × Value)} {ep:Nat} {t t':SetTable} {h:Heap} (g:h.get? a = some { cls:=.type "set",dict:=none,data:=.set es ep t,slots := #[] }) :
 (h.update a (Obj.putSet es' t')).get? a = some { cls:=.type "set",dict:=none,data:=.set es' (ep+1) t',slots := #[] }:=iP (Obj.putSet es' t') g rfl
end
end PP
end
section
namespace PP
open PySem L2 PyProof.Rows PySem.SeqAt
mutual
theorem fb:∀ (a b:D),hb a = true->hb b = true->(eqD a b = true↔a = b)
 | .str x,.str y,_,_=>by unfold eqD;simp
 | .int x,.int y,_,_=>by unfold eqD;simp
 | .tup xs,.tup ys,h1,h2=>by
   unfold hb at h1 h2
   unfold eqD
   rw [sG xs ys h1 h2]
   simp
 | .str _,.int _,_,_ | .str _,.tup _,_,_ | .int _,.str _,_,_ | .int _,.tup _,_,_ | .tup _,.str _,_,_ | .tup _,.int _,_,_=>by unfold eqD;simp
 | .non,_,h,_ | .bl _,_,h,_ | .lst _,_,h,_ | .fn _ _,_,h,_ | .dct _ _,_,h,_=>by unfold hb at h;cases h
 | _,.non,_,h | _,.bl _,_,h | _,.lst _,_,h | _,.fn _ _,_,h | _,.dct _ _,_,h=>by unfold hb at h;cases h
theorem sG:∀ (a b:List D),hbL a = true->hbL b = true->(eZ a b = true↔a = b)
 | [],[],_,_=>by unfold eZ;simp
 | [],_::_,_,_=>by unfold eZ;simp
 | _::_,[],_,_=>by unfold eZ;simp
 | x::xs,y::ys,h1,h2=>by
   unfold hbL at h1 h2
   rw [aa] at h1 h2
   unfold eZ
   rw [aa,fb x y h1.1 h2.1,sG xs ys h1.2 h2.2]
   simp
end
variable [Tbs]
noncomputable def IK (w:World) (h:Heap) (ds:List D) (es:List (Int × Value)):Prop:=Paired (fun (d:D) (e:Int × Value)=>e.1 = hD w d/\hok d = true/\RdV h d e.2) ds es
theorem mw {α β:Type} {R:α->β->Prop} {xs:List α} {ys:List β} (h:Paired R xs ys):∀ (i:Nat) (y:β),ys[i]? = some y->∃ x,xs[i]? = some x/\R x y:=by
 induction h with
 | nil=>intro i y e;simp at e
 | cons r _ ih =>
   intro i y e
   cases i with
   | zero=>simp at e;exact ⟨_,rfl,e▸r⟩
   | succ i=>exact ih i y (by simpa using e)
theorem mr {α β:Type} {R:α->β->Prop} {xs:List α} {ys:List β} (h:Paired R xs ys):∀ (i:Nat) (x:α),xs[i]? = some x->∃ y,ys[i]? = some y/\R x y:=by
 induction h with
 | nil=>intro i y e;simp at e
 | cons r _ ih =>
   intro i y e
   cases i with
   | zero=>simp at e;exact ⟨_,rfl,e▸r⟩
   | succ i=>exact ih i y (by simpa using e)
section
variable {prog:Program} {w:World} {A:Around} {E:Value->Shared->Prop} {s:Shared}
theorem Gz {d:D} {x:Value} {Q:Bool->Shared->Prop} (hx:hok d = true) (rx:RdV s.heap d x) (q:Q false s):∀ (vs:List Value),(∀ v∈vs,∃ e,hok e = true/\RdV s.heap e v)->wpAny (model prog w) A (searchCouldBeSeen x vs) Q E s:=by
 intro vs hv
 obtain ⟨hb1,hd1,_⟩:=dG hx
 unfold searchCouldBeSeen
 refine ag ?_
 refine wpAny_forIn_list _ (fun rest r s'=>r = (none,())/\s' = s/\∀ v∈rest,∃ e,hok e = true/\RdV s.heap e v) _ ?_ ?_ _ _ ⟨rfl,rfl,hv⟩
 . rintro y rest r s' ⟨rfl,rfl,hall⟩
   obtain ⟨e,he,re⟩:=hall y ak
   obtain ⟨hb2,hd2,_⟩:=dG he
   have hr:∀ v∈rest,∃ e,hok e = true/\RdV s'.heap e v:=fun v hv=>hall v (av _ hv)
   obtain ⟨b,rfl⟩:=lA hx rx
   obtain ⟨c,rfl⟩:=lA he re
   dsimp only
   by_cases hc:(b == c || carriedByValue (.ref b) && carriedByValue (.ref c)) = true
   . rw [if_pos hc]
     refine ar ?_
     exact ⟨rfl,rfl,hr⟩
   . rw [if_neg hc]
     refine ag (pV d 8 s' _ _ hb1 rx hd1 ?_)
     simp only [cH,ae,if_false]
     refine ag (pV e 8 s' _ _ hb2 re hd2 ?_)
     simp only [cH,ae,if_false]
     refine ag (pY d 8 s' _ _ hb1 rx hd1 ?_)
     simp only [ae,if_false]
     refine ag (pY e 8 s' _ _ hb2 re hd2 ?_)
     simp only [ae,if_false]
     refine ar ?_
     exact ⟨rfl,rfl,hr⟩
 . rintro r s' ⟨rfl,rfl,_⟩
   exact ar q
theorem fits_of {t:SetTable} {hs:List Int} (T:TbI t hs) {n:Nat} (h:hs.length = n):t.fits n = true:=by
 have h1:t.place.size = n:=by rw [<- h,<- T.len];simp
 unfold SetTable.fits SetTable.fill
 rw [T.dm,h1]
 have:=T.few
 simp
 omega
theorem HE {m:Nat} (h:mk m):(m % 2 == 0) = false:=by rcases h with rfl | rfl | rfl<;>rfl
theorem zZ {a:Addr} {es:Array (Int × Value)} {ep:Nat} {t:SetTable} {ds:List D} {d:D} {x:Value} {Q:SetFound->Shared->Prop} (hu:A.units+20 < cLine)
 (g:s.heap.get? a = some { cls:=.type "set",dict:=none,data:=.set es ep t,slots := #[] }) (T:TbI t (es.toList.map (·.1))) (he:IK w s.heap ds es.toList) (hx:hok d = true) (rx:RdV s.heap d x)
 (there:d∈ds->Q (.there none) s) (free:d∉ds->∀ N,ps t.mask (hD w d) N∉t.place.toList->(∀ k < N,ps t.mask (hD w d) k∈t.place.toList)->Q (.free (ps t.mask (hD w d) N) false) s) :
 wpAny (model prog w) A (setSearch a x (hD w d) (adding:=true)) Q E s:=by
 have hf:t.fits es.size = true:=fits_of T (by simp)
 have hsi:∀ (i:Nat) (e:Int × Value),es.toList[i]? = some e->(es.toList.map (·.1))[i]? = some e.1:=fun i e z=>by rw [aS,z];rfl
 obtain ⟨N0,_,n2,n3⟩:=T.room (hD w d) 0
 have hT0:10 * SetTable.turns t.mask < 100000:=by
  unfold SetTable.turns
  rcases T.mok with z | z | z<;>rw [z]<;>decide
 obtain ⟨hb1,hd1,_⟩:=dG hx
 have main:∀ (f n:Nat) (st:Option SetTable.Probe),st.getD (t.probeStart (hD w d)) = sq t.mask (hD w d) n->n<=N0->N0 - n < f->(∀ k < n,ps t.mask (hD w d) k∈t.place.toList) ->
  (∀ (i k:Nat),k < n->t.place.toList[i]? = some (ps t.mask (hD w d) k)->ds[i]?≠some d)->wpAny (model prog w) A (setSearchFrom a x (hD w d) true f st) Q E s:=by
  intro f
  induction f with
  | zero=>intro n st _ _ z;omega
  | succ f ih =>
    intro n st hst hn hf' hr hv
    unfold setSearchFrom
    refine ag (cc g rfl hf ?_)
    dsimp only
    rw [if_neg (by show ¬ (t.mask % 2 == 0) = true;rw [HE T.mok];exact ai),hst]
    obtain ⟨r,er,pr⟩:=Ah T (hD w d) (ha:=fun i=>(es[i]?.map (·.1)).getD 0) (fun i h z=>by
     rw [aS] at z
     obtain ⟨e,e1,e2⟩:=aL.mp z
     have:es[i]? = some e:=by simpa using e1
     simp [this,e2]) n
    generalize hp:t.probe _ (hD w d) (sq t.mask (hD w d) n) = pr'
    have hp':pr' = some r:=hp.symm.trans er
    subst hp'
    cases pr with
    | empty N a b c =>
      refine ar (free (fun hm=>?_) N b fun k hk=>?_)
      . obtain ⟨i,hi⟩:=dg hm
        obtain ⟨e,e1,e2,_,_⟩:=mr he i d hi
        have hl:i < t.place.toList.length:=by
         rw [T.len,aj]
         exact (aE.mp e1).1
        have ej:=ax hl
        have eh:(es.toList.map (·.1))[i]? = some (hD w d):=by rw [hsi i e e1,e2]
        obtain ⟨n0,m1,m2⟩:=T.rch i _ _ ej eh
        rw [<- m1] at ej
        rcases dj n0 n with z | z
        . exact hv i n0 z ej hi
        . rcases kZ n0 N with y | y | y
          . exact (c n0 z y).2 i ej eh
          . rw [y] at ej
            exact b (aO ej)
          . exact b (m2 N y)
      . rcases dj k n with z | z
        . exact hr k z
        . exact (c k z hk).1
    | cand N i aN b e c =>
      rw [aS] at e
      obtain ⟨ei,e1,e2⟩:=aL.mp e
      obtain ⟨di,d1,d2,d3,d4⟩:=mw he i ei e1
      obtain ⟨hb2,hd2,_⟩:=dG d3
      have e1':es[i]? = some ei:=by simpa using e1
      have hN:N+1<=N0:=by
       rcases dj N N0 with z | z
       . exact z
       . rcases kz z with y | y
         . exact absurd (c N0 hn y).1 n3
         . exact absurd (by rw [y];exact aO b) n3
      have hall:∀ v∈List.map (fun x=>x.snd) (Array.filter (fun x=>x.fst == hD w d) es).toList,∃ e,hok e = true/\RdV s.heap e v:=fun v hv=>by
       obtain ⟨y,hy,rfl⟩:=aR.mp hv
       rw [Array.toList_filter] at hy
       obtain ⟨k,hk⟩:=dg (eN.mp hy).1
       obtain ⟨q,_,_,q1,q2⟩:=mw he k y hk
       exact ⟨q,q1,q2⟩
      have go:wpAny (model prog w) A (setSearchFrom a x (hD w d) true f (some (sq t.mask (hD w d) (N+1)))) Q E s\/di = d:=by
       by_cases z:di = d
       . exact .inr z
       . refine .inl (ih (N+1) (some (sq t.mask (hD w d) (N+1))) rfl hN (by omega) (fun k hk=>?_) fun i' k hk h1 h2=>?_)
         . rcases dj k n with y | y
           . exact hr k y
           . rcases kz (cO hk) with y' | y'
             . exact (c k y y').1
             . rw [y'];exact aO b
         . rcases dj k n with y | y
           . exact hv i' k y h1 h2
           . obtain ⟨e',q1,q2,_⟩:=mr he i' d h2
             have eh:(es.toList.map (·.1))[i']? = some (hD w d):=by rw [hsi i' e' q1,q2]
             rcases kz (cO hk) with y' | y'
             . exact (c k y y').2 i' h1 eh
             . rw [y'] at h1
               have l1:=T.live h1
               rw [T.live b] at l1
               cases l1
               rw [d1] at h2
               exact z (aX h2)
      dsimp only
      split
      all_goals
       try
        refine ag (Gz hx rx ?_ _ hall)
        simp only [ae,if_false]
       rw [e1']
       dsimp only
       refine ag (cN (mQ di d A s ei.2 x d4 rx (by omega) prog w E _ ?_))
       refine ag (cc g rfl hf ?_)
       dsimp only
       rcases go with go | go
       . by_cases hq:eqD di d = true
         . rw [hq]
           simp only [bq,if_true]
           exact ar (there (by rw [<- (fb di d hb2 hb1).mp hq];exact aO d1))
         . rw [cB.mpr hq,if_neg (by decide)]
           rw [show t.sameMemory t.moves t.mask = some true by unfold SetTable.sameMemory;simp]
           dsimp only
           rw [if_pos rfl,T.live b]
           dsimp only
           rw [e1']
           dsimp only
           refine ag (ia (a:=true) (by obtain ⟨c,hc⟩:=lA d3 d4;rw [hc];unfold isSame;simp) ?_)
           exact ag (ar go)
       . have hq:eqD di d = true:=(fb di d hb2 hb1).mpr go
         rw [hq]
         simp only [bq,if_true]
         exact ar (there (by rw [<- go];exact aO d1))
 exact main 100000 0 none rfl (by omega) (by omega) (fun k hk=>by omega) fun i k hk=>by omega
end
end PP
end
section
namespace PP
open PySem L2 PyProof.Rows
theorem xV {M:Model} {A:Around} {E:Value->Shared->Prop} {s:Shared} {src:Source} {n:Nat} {Q:Nat->Shared->Prop} (hn:n≠0) (h:∀ i,i < n->Q i { s with drawn:=s.drawn.bump src }):wpAny M A (choose src n) Q E s :=
 fun Γ p hΓ=>⟨hn,h _ (gz _ (Nat.pos_of_ne_zero hn))⟩
theorem jg {α:Type}:∀ {xs:List α} {i:Nat} {x:α},xs[i]? = some x->xs.Perm (x::xs.eraseIdx i)
 | [],i,x,h=>by simp at h
 | y::ys,0,x,h=>by simp at h;subst h;exact .refl _
 | y::ys,i+1,x,h=>by
   have:=jg (xs:=ys) (i:=i) (by simpa using h)
   exact (this.cons y).trans (.swap _ _ _)
theorem rY {α:Type} {M:Model} {A:Around} {E:Value->Shared->Prop}:∀ (n:Nat) (xs:List α) (s:Shared) (Q:List α->Shared->Prop),xs.length = n->(∀ ys d,ys.Perm xs->Q ys { s with drawn:=d })->wpAny M A (drawOrder n xs) Q E s
 | 0,xs,s,Q,hl,h=>by
   have:xs = []:=du.mp hl
   subst this
   exact ar (h [] s.drawn (.refl _))
 | n+1,[],s,Q,hl,h=>by simp at hl
 | n+1,x::xs,s,Q,hl,h=>by
   unfold drawOrder
   refine ag (xV (by simp) fun i hi=>?_)
   have e:(x::xs)[i]? = some (x::xs)[i]:=ax hi
   have pe:=jg e
   rw [e]
   dsimp only
   refine ag (rY n _ _ _ ?_ fun ys d p=>ar ?_)
   . rw [pj hi];simp at hl ⊢;exact hl
   . exact h _ d ((p.cons _).trans pe.symm)
theorem vh {α:Type} (f:Nat->Nat):∀ (n k:Nat) (left:List α) (out:Array α),left.length = n->(pickOrder.go f n k left out).toList.Perm (out.toList++left)
 | 0,k,left,out,hl=>by
   have:left = []:=du.mp hl
   subst this
   simp [pickOrder.go]
 | n+1,k,left,out,hl=>by
   have hi:f k % left.length < left.length:=gz _ (by omega)
   have e:left[f k % left.length]? = some left[f k % left.length]:=ax hi
   have pe:=jg e
   unfold pickOrder.go
   rw [e]
   dsimp only
   refine (vh f n (k+1) _ _ (by rw [pj hi];omega)).trans ?_
   rw [yA,BO]
   exact (List.Perm.refl _).append pe.symm
theorem oB {α:Type} (f:Nat->Nat) (xs:Array α):(pickOrder f xs).toList.Perm xs.toList:=by
 have:=vh f xs.size 0 xs.toList #[] (by simp)
 simpa [pickOrder] using this
theorem iK:Slot "set_iterator" "__next__" "set_iterator.__next__" :=
 .of (owner:="set_iterator") (n:="__next__") (by rw [jm,fQ];kernel_rfl) (by decide +kernel) (by decide +kernel) (by decide +kernel) (by first | exact .inl (by decide +kernel) | exact .inr (by decide +kernel)) (by rw [uF];kernel_rfl)
theorem sH:entryFor table "set_iterator.__next__" = some Builtin.«set_iterator.__next__»:=entryFor_of_tree (by kernel_rfl)
theorem wc (a:Value):argsOk "set_iterator.__next__" ⟨[a],[]⟩:=by unfold argsOk;kernel_rfl
theorem Bn:entryFor table "set.__iter__" = some Builtin.«frozenset.__iter__»:=entryFor_alias (id':="frozenset.__iter__") (by kernel_rfl) rfl (by decide +kernel) (by kernel_rfl)
theorem xQ:entryFor table "set_iterator.__iter__" = some Builtin.«dict_keyiterator.__iter__»:=entryFor_alias (id':="dict_keyiterator.__iter__") (by kernel_rfl) rfl (by decide +kernel) (by kernel_rfl)
theorem BC (a:Value):argsOk "set_iterator.__iter__" ⟨[a],[]⟩:=by unfold argsOk;kernel_rfl
theorem rD:Slot "set_iterator" "__iter__" "set_iterator.__iter__" :=
 .of (owner:="set_iterator") (n:="__iter__") (by rw [jm,fQ];kernel_rfl) (by decide +kernel) (by decide +kernel) (by decide +kernel) (by first | exact .inl (by decide +kernel) | exact .inr (by decide +kernel)) (by rw [uF];kernel_rfl)
section
variable {prog:Program} {w:World} {A:Around} {E:Value->Shared->Prop} {s:Shared}
noncomputable def itO (first:Value) (i:Nat) (a:Addr) (n ep:Nat):Obj:={ cls:=.type "set_iterator",data:=.fields #[first,.int i 0,.ref a,.int n 0,.int ep 0] }
theorem AX {a:Addr} {es:Array (Int × Value)} {ep:Nat} {t:SetTable} {Q:Value->Shared->Prop} (g:s.heap.get? a = some { cls:=.type "set",dict:=none,data:=.set es ep t,slots := #[] }) (hf:t.fits es.size = true)
 (hd:(w.params.followText "set-order" = true\/es.size<=1)->Q (.ref s.heap.objs.size) { s with heap:=s.heap.push (itO (.int 0 0) 0 a es.size ep) })
 (hn:w.params.followText "set-order" = false->∀ (ps:List Nat) d,ps.Perm (List.range es.size) ->
   Q (.ref (s.heap.objs.size+1)) { s with drawn:=d,heap:=(s.heap.push { cls:=.type "tuple",data:=.seq (ps.map fun (i:Nat)=>rawInt i).toArray }).push (itO (.ref s.heap.objs.size) 0 a es.size ep) })
 (hz:es.size < 1000) (hp:es.size = 0\/t.plain = false):wpAny (model prog w) A (pyIter (.ref a)) Q E s:=by
 refine IS (T:="set") ⟨_,g,rfl⟩ PySem.F.slot_set_iter (cL PySem.F.slot_set_iter ⟨_,g,rfl⟩ Bn ?_ (PySem.F.args_set_iter_1 _))
 unfold Builtin.«frozenset.__iter__» Builtin.Frozenset.slot0 Builtin.Frozenset.addrOf Builtin.Frozenset.sizeOf
 simp only [slotArgs,lH,cH,ae,if_false,aF,bne_self_eq_false,pure_bind,bind_assoc]
 refine ag (kX g rfl hf ?_)
 unfold setDrawn setsByText
 simp only [bind_assoc,pure_bind]
 refine ag (cc g rfl hf (ag (eK ?_)))
 have sn:typeLookup (.type "set_iterator") (Str.ofString "__next__") = pure (some (.builtin "set_iterator.__next__")):=iK.lookup
 cases hb:w.params.followText "set-order" with
 | true =>
   rw [show ((model prog w).w.params.followText "set-order") = true from hb]
   simp only [cH,Bool.false_and,ae,if_false]
   refine ag (oa g rfl hf (ag (bw (ar ⟨_,rfl,"set_iterator",_,⟨_,aD _ rfl,rfl⟩,sn,hd (.inl hb)⟩))))
 | false =>
   rw [show ((model prog w).w.params.followText "set-order") = false from hb]
   split
   . refine ag (rY _ _ _ _ (by simp) fun ps d p=>?_)
     have hl:ps.length = es.size:=by rw [p.length_eq];simp
     unfold newTuple
     refine ag (bw ?_ (by show (ps.map fun (i:Nat)=>rawInt i).toArray.size<=sizeLine;rw [bM];simp;omega))
     refine ag (oa (s:={ s with drawn:=d,heap:=s.heap.push { cls:=.type "tuple",data:=.seq (ps.map fun (i:Nat)=>rawInt i).toArray } }) (ah _ g) rfl hf ?_)
     refine ag (bw (ar ⟨_,rfl,"set_iterator",_,⟨_,aD _ rfl,rfl⟩,sn,?_⟩))
     have:=hn hb ps d p
     rw [show (s.heap.push { cls:=.type "tuple",data:=.seq (ps.map fun (i:Nat)=>rawInt i).toArray }).objs.size = s.heap.objs.size+1 from bQ ..]
     exact this
   . rename_i nd
     have h1:es.size<=1:=by
      rcases hp with z | z
      . omega
      . apply fX
        intro h2
        apply nd
        show (!false && (!t.plain && decide (es.size > 1))) = true
        rw [z]
        simp
        omega
     refine ag (oa g rfl hf (ag (bw (ar ⟨_,rfl,"set_iterator",_,⟨_,aD _ rfl,rfl⟩,sn,hd (.inr h1)⟩))))
end
end PP
end
section
namespace PP
open PySem L2 PyProof.Rows
section
variable {prog:Program} {w:World} {A:Around} {E:Value->Shared->Prop} {s:Shared}
noncomputable def ua (es:Array (Int × Value)) (ep:Nat) (t:SetTable):Obj:={ cls:=.type "set",dict:=none,data:=.set es ep t,slots := #[] }
noncomputable def plO (ps:List Nat):Obj:={ cls:=.type "tuple",data:=.seq (ps.map fun (i:Nat)=>rawInt i).toArray }
theorem qe {I:Addr} {f:Value} {i:Nat} {a:Addr} {n ep:Nat} {Q:Value->Shared->Prop} (g:s.heap.get? I = some (itO f i a n ep)) (h:Q (.ref I) s):wpAny (model prog w) A (pyIter (.ref I)) Q E s:=by
 refine IS (T:="set_iterator") ⟨_,g,rfl⟩ rD (cL rD ⟨_,g,rfl⟩ xQ ?_ (BC _))
 exact ar ⟨_,rfl,"set_iterator",_,⟨_,g,rfl⟩,iK.lookup,h⟩
theorem uT {Q:Option Value->Shared->Prop} {Q':PySem.Fin->Shared->Prop} (hh:A.handled = none) (h:∀ h',(∀ b o,s.heap.get? b = some o->h'.get? b = some o)->Q none { s with heap:=h' }) :
 wpAny (model prog w) A.in1 (do raiseNew (<- newExc (.type "StopIteration") [])) Q' (fun e s'=>wpAny (model prog w) A (do
  let b <- isInstance e (.type "StopIteration")
  if b = true then pure none else throw e) Q E s') s:=by
 refine ag ?_
 simp only [newExc,newTuple]
 refine ag (bw (ag (m:=firstArgMember _ _) (ia (a:=Value.none) (by first | rfl | (simp only [firstArgMember];rfl)) (bw ?_ (by size_fits)))) (by size_fits))
 simp only [raiseNew]
 apply ag;apply wpAny_handled;rw [(hh:A.in1.handled = none)];dsimp only;apply wpAny_throw
 refine ag (qF (b:=true) (T:="StopIteration") ⟨_,aD _ rfl,rfl⟩ isSubtype_stop (ar (h _ fun b o e=>?_)))
 exact ah _ (ah _ e)
theorem mI {I:Addr} {f x:Value} {i:Nat} {a:Addr} {n ep:Nat} {h:Heap} (g:h.get? I = some (itO f i a n ep)):(h.update I (Obj.mapFields (·.setIfInBounds 0 x))).get? I = some (itO x i a n ep):=iP _ g rfl
theorem sx {I:Addr} {f:Value} {i:Nat} {a:Addr} {n ep:Nat} {h:Heap} (g:h.get? I = some (itO f i a n ep)):(h.update I (Obj.mapFields (·.setIfInBounds 1 (rawInt ((i:Int)+1))))).get? I = some (itO f (i+1) a n ep):=by
 have:=iP (Obj.mapFields (·.setIfInBounds 1 (rawInt ((i:Int)+1)))) g rfl
 rw [this]
 simp [Obj.mapFields,itO,rawInt]
section
variable {I a:Addr} {es:Array (Int × Value)} {ep:Nat} {t:SetTable} {i:Nat} {Q:Option Value->Shared->Prop}
theorem qb {slot:Nat} (g:s.heap.get? I = some (itO (.int slot 0) i a es.size ep)) (ga:s.heap.get? a = some (ua es ep t)) (hf:t.fits es.size = true) (hh:A.handled = none) {r:Option (Value × Nat)}
 (hs:∀ (A':Around) (Q':Option (Value × Nat)->Shared->Prop) (E':Value->Shared->Prop),Q' r s->wpAny (model prog w) A' (setNext a slot i ep) Q' E' s)
 (h:match r with
   | some (x,next)=>∀ h',h'.get? I = some (itO (.int next 0) (i+1) a es.size ep)->(∀ b o,b≠I->s.heap.get? b = some o->h'.get? b = some o)->Q (some x) { s with heap:=h' }
   | none=>∀ h',(∀ b o,b≠I->s.heap.get? b = some o->h'.get? b = some o)->Q none { s with heap:=h' }) :
 wpAny (model prog w) A (pyNext (.ref I)) Q E s:=by
 unfold pyNext
 refine ag (wpAny_attempt (iW (name:=Str.ofString "__next__") ⟨_,g,rfl⟩ iK (cL iK ⟨_,g,rfl⟩ sH ?_ (wc _))))
 unfold Builtin.«set_iterator.__next__»
 simp only [slotArgs,lH,cH,ae,if_false,aF,bne_self_eq_false,pure_bind,bind_assoc]
 refine ag (wpAny_fieldsOf g rfl ?_)
 dsimp only
 refine ag (kX ga rfl hf ?_)
 rw [if_neg (by simp)]
 refine ag (hs _ _ _ ?_)
 cases r with
 | some p =>
   obtain ⟨x,next⟩:=p
   refine ag (fG g rfl (by show 0 < 5;decide) (ag (fG (mI g) rfl (by show 1 < 5;decide) (ar ⟨x,rfl,ar (h _ (sx (mI g)) fun b o hb e=>?_)⟩))))
   exact (cn _ I _).extBut b o hb ((cn _ I _).extBut b o hb e)
 | none =>
   refine ag (fG g rfl (by show 2 < 5;decide) ?_)
   refine uT hh fun h' k=>?_
   exact h h' fun b o hb e=>k b o ((cn _ I _).extBut b o hb e)
theorem Ay {T:Addr} {ps:List Nat} (g:s.heap.get? I = some (itO (.ref T) i a es.size ep)) (ga:s.heap.get? a = some (ua es ep t)) (gT:s.heap.get? T = some (plO ps)) (hf:t.fits es.size = true) (hh:A.handled = none)
 (h:match ps[i]? with
   | some p=>∃ x,es[p]? = some x/\∀ h',h'.get? I = some (itO (.ref T) (i+1) a es.size ep)->(∀ b o,b≠I->s.heap.get? b = some o->h'.get? b = some o)->Q (some x.2) { s with heap:=h' }
   | none=>∀ h',(∀ b o,b≠I->s.heap.get? b = some o->h'.get? b = some o)->Q none { s with heap:=h' }) :
 wpAny (model prog w) A (pyNext (.ref I)) Q E s:=by
 unfold pyNext
 refine ag (wpAny_attempt (iW (name:=Str.ofString "__next__") ⟨_,g,rfl⟩ iK (cL iK ⟨_,g,rfl⟩ sH ?_ (wc _))))
 unfold Builtin.«set_iterator.__next__»
 simp only [slotArgs,lH,cH,ae,if_false,aF,bne_self_eq_false,pure_bind,bind_assoc]
 refine ag (wpAny_fieldsOf g rfl ?_)
 dsimp only
 refine ag (kX ga rfl hf ?_)
 rw [if_neg (by simp)]
 refine ag (wpAny_seqItems gT rfl ?_)
 dsimp only
 have e:((ps.map fun (i:Nat)=>rawInt i).toArray)[((i:Nat):Int).toNat]? = (ps[i]?).map fun (p:Nat)=>rawInt p:=by simp
 rw [e]
 cases hp:ps[i]? with
 | some p =>
   rw [hp] at h
   obtain ⟨x,hx,h⟩:=h
   simp only [cM,rawInt]
   unfold setNextDrawn
   simp only [bind_assoc,pure_bind]
   refine ag (cc ga rfl hf ?_)
   rw [if_neg (by simp)]
   simp only [lg,hx,pure_bind]
   refine ag (fG g rfl (by show 1 < 5;decide) (ar ⟨x.2,rfl,ar (h _ (sx g) fun b o hb e=>?_)⟩))
   exact (cn _ I _).extBut b o hb e
 | none =>
   rw [hp] at h
   simp only [Option.map_none]
   refine ag (fG g rfl (by show 0 < 5;decide) (ag (fG (mI g) rfl (by show 2 < 5;decide) ?_)))
   refine uT hh fun h' k=>?_
   exact h h' fun b o hb e=>k b o ((cn _ I _).extBut b o hb ((cn _ I _).extBut b o hb e))
end
end
end PP
end
section
namespace PP
open PySem L2 PyProof.Rows
section
variable {prog:Program} {w:World} {A:Around} {E:Value->Shared->Prop} {s:Shared} {I a T:Addr} {es:Array (Int × Value)} {ep:Nat} {t:SetTable}
theorem yD {ps:List Nat} (hh:A.handled = none) (h1:a≠I) (h2:T≠I) (hf:t.fits es.size = true) (hp:∀ p∈ps,p < es.size) :
 Walks prog w A I [I,a,T] [I] ps.length (fun i v=>∃ p x,ps[i]? = some p/\es[p]? = some x/\v = x.2) (fun i h=>h.get? I = some (itO (.ref T) i a es.size ep)/\h.get? a = some (ua es ep t)/\h.get? T = some (plO ps)) where
 sub:=fun b hb=>by simp at hb;simp [hb]
 frame:=fun _ _ _ st hk=>⟨hk I (by simp) _ st.1,hk a (by simp) _ st.2.1,hk T (by simp) _ st.2.2⟩
 item:=fun i s Q E hi st hQ=>by
  refine Ay (ps:=ps) st.1 st.2.1 st.2.2 hf hh ?_
  have e:ps[i]? = some ps[i]:=ax hi
  obtain ⟨x,hx⟩:∃ x,es[ps[i]]? = some x:=⟨_,bF (hp _ (hV hi))⟩
  rw [e]
  exact ⟨x,hx,fun h' g' k=>hQ _ h' s.toks ⟨_,_,e,hx,rfl⟩ ⟨g',k a _ h1 st.2.1,k T _ h2 st.2.2⟩ fun b o hb z=>k b o (fun q=>hb (by simp [q])) z⟩
 done:=fun s Q E st hQ=>by
  refine Ay (ps:=ps) st.1 st.2.1 st.2.2 hf hh ?_
  have e:ps[ps.length]? = none:=by simp
  rw [e]
  exact fun h' k=>hQ h' s.toks fun b o hb z=>k b o (fun q=>hb (by simp [q])) z
 self:=fun _ _ _ _ st hQ=>qe st.1 hQ
noncomputable def txt (w:World) (a:Addr) (ep:Nat) (es:Array (Int × Value)):Array (Int × Value):=pickOrder (w.params.setOrder a ep) es
theorem yC (hh:A.handled = none) (h1:a≠I) (hf:t.fits es.size = true) (hb:w.params.followText "set-order" = true) :
 Walks prog w A I [I,a] [I] es.size (fun i v=>∃ x,(txt w a ep es)[i]? = some x/\v = x.2) (fun i h=>(∃ slot:Nat,h.get? I = some (itO (.int slot 0) i a es.size ep))/\h.get? a = some (ua es ep t)):=by
 have hsz:(txt w a ep es).size = es.size:=by
  have:=(oB (w.params.setOrder a ep) es).length_eq
  simpa [txt] using this
 have sn:∀ (A':Around) (s:Shared) (slot i:Nat) (Q':Option (Value × Nat)->Shared->Prop) (E':Value->Shared->Prop),s.heap.get? a = some (ua es ep t)->Q' (((txt w a ep es)[i]?).map fun e=>(e.2,slot)) s->wpAny (model prog w) A' (setNext a slot i ep) Q' E' s:=fun A' s slot i Q' E' ga q=>by
  unfold setNext setsByText
  simp only [bind_assoc,pure_bind]
  refine ag (cc ga rfl hf (ag (eK ?_)))
  rw [show ((model prog w).w.params.followText "set-order") = true from hb]
  simp only [if_true,bne_self_eq_false,ae,if_false]
  unfold setWalk setsByText
  simp only [bind_assoc,pure_bind]
  refine ag (cc ga rfl hf (ag (eK ?_)))
  rw [show ((model prog w).w.params.followText "set-order") = true from hb]
  simp only [if_true,bind_assoc,pure_bind]
  exact ag (eK (ar q))
 exact {
  sub:=fun b hb=>by simp at hb;simp [hb]
  frame:=fun _ _ _ st hk=>⟨st.1.imp fun slot e=>hk I (by simp) _ e,hk a (by simp) _ st.2⟩
  item:=fun i s Q E hi st hQ=>by
   obtain ⟨slot,g⟩:=st.1
   have e:(txt w a ep es)[i]? = some ((txt w a ep es)[i]'(by omega)):=bF _
   refine qb (slot:=slot) (r:=some (((txt w a ep es)[i]'(by omega)).2,slot)) g st.2 hf hh (fun A' Q' E' q=>sn A' s slot i Q' E' st.2 (by rw [e];exact q)) fun h' g' k=>?_
   exact hQ _ h' s.toks ⟨_,e,rfl⟩ ⟨⟨slot,g'⟩,k a _ h1 st.2⟩ fun b o hb z=>k b o (fun q=>hb (by simp [q])) z
  done:=fun s Q E st hQ=>by
   obtain ⟨slot,g⟩:=st.1
   have e:(txt w a ep es)[es.size]? = none:=by rw [<- hsz];simp
   refine qb (slot:=slot) (r:=none) g st.2 hf hh (fun A' Q' E' q=>sn A' s slot es.size Q' E' st.2 (by rw [e];exact q)) fun h' k=>?_
   exact hQ h' s.toks fun b o hb z=>k b o (fun q=>hb (by simp [q])) z
  self:=fun _ _ _ _ st hQ=>qe st.1.choose_spec hQ }
theorem sU (p:Array Nat) (hp:p.size<=1) (slot:Nat):SetTable.below p slot = if p.any (· < slot) = true then 1 else 0:=by
 match p,hp with
 | ⟨[]⟩,_=>simp [SetTable.below,SetTable.below.go]
 | ⟨[j]⟩,_ =>
   by_cases h:j < slot
   . simp [SetTable.below,SetTable.below.go,h]
   . simp [SetTable.below,SetTable.below.go,h]
 | ⟨_::_::_⟩,h=>simp at h
theorem yE (hh:A.handled = none) (h1:a≠I) (hf:t.fits es.size = true) (hb:w.params.followText "set-order" = false) (hl:t.led = true) (hz:es.size<=1) :
 Walks prog w A I [I,a] [I] es.size (fun i v=>∃ x,es[i]? = some x/\v = x.2) (fun i h=>(∃ slot:Nat,h.get? I = some (itO (.int slot 0) i a es.size ep)/\(i = 0->slot = 0)/\(1<=i->t.place.any (· < slot) = true))/\h.get? a = some (ua es ep t)):=by
 have hp:t.place.size = es.size:=by
  have:=hf
  simp only [SetTable.fits,aa,beq_iff_eq] at this
  exact this.1
 have sn:∀ (A':Around) (s:Shared) (slot i:Nat) (Q':Option (Value × Nat)->Shared->Prop) (E':Value->Shared->Prop),s.heap.get? a = some (ua es ep t) ->
  Q' (match es[SetTable.below t.place slot]?,t.place[SetTable.below t.place slot]? with | some (_,x),some j=>some (x,j+1) | _,_=>none) s->wpAny (model prog w) A' (setNext a slot i ep) Q' E' s:=fun A' s slot i Q' E' ga q=>by
  unfold setNext setsByText
  simp only [bind_assoc,pure_bind]
  refine ag (cc ga rfl hf (ag (eK ?_)))
  rw [show ((model prog w).w.params.followText "set-order") = false from hb]
  simp only [ae,if_false]
  refine ia (a:=(match es[SetTable.below t.place slot]?,t.place[SetTable.below t.place slot]? with | some (_,x),some j=>some (x,j+1) | _,_=>none)) ?_ q
  rw [if_neg (by show ¬ ((!t.plain && decide (es.size > 1)) = true);simp;omega)]
  show ((if (!t.led && !es.isEmpty) = true then unsupported _ else pure ()) >>= fun _=>pure _:Sem _) = _
  rw [hl]
  rfl
 exact {
  sub:=fun b hb=>by simp at hb;simp [hb]
  frame:=fun _ _ _ st hk=>⟨st.1.imp fun slot e=>⟨hk I (by simp) _ e.1,e.2⟩,hk a (by simp) _ st.2⟩
  item:=fun i s Q E hi st hQ=>by
   obtain ⟨slot,g,z0,z1⟩:=st.1
   have i0:i = 0:=by omega
   subst i0
   have s0:=z0 rfl
   subst s0
   have b0:SetTable.below t.place 0 = 0:=by rw [sU _ (by omega)];simp
   have e:es[0]? = some (es[0]'hi):=bF _
   have ej:t.place[0]? = some (t.place[0]'(by omega)):=bF _
   refine qb (slot:=0) (r:=some ((es[0]'hi).2,t.place[0]'(by omega)+1)) g st.2 hf hh (fun A' Q' E' q=>sn A' s 0 0 Q' E' st.2 (by rw [b0,e,ej];exact q)) fun h' g' k=>?_
   refine hQ _ h' s.toks ⟨_,e,rfl⟩ ⟨⟨_,g',fun z=>by omega,fun _=>?_⟩,k a _ h1 st.2⟩ fun b o hb z=>k b o (fun q=>hb (by simp [q])) z
   rw [Array.any_eq_true]
   exact ⟨0,by omega,by simp⟩
  done:=fun s Q E st hQ=>by
   obtain ⟨slot,g,z0,z1⟩:=st.1
   have e:es[SetTable.below t.place slot]? = none:=by
    rw [sU _ (by omega)]
    rcases dj 0 es.size with q | q
    . rw [if_pos (z1 (by omega))]
      exact tm (by omega)
    . exact tm (by split<;>omega)
   refine qb (slot:=slot) (r:=none) g st.2 hf hh (fun A' Q' E' q=>sn A' s slot es.size Q' E' st.2 (by rw [e];exact q)) fun h' k=>?_
   exact hQ h' s.toks fun b o hb z=>k b o (fun q=>hb (by simp [q])) z
  self:=fun _ _ _ _ st hQ=>qe st.1.choose_spec.1 hQ }
noncomputable def II (w:World) (a:Addr) (xs:List Value) (h:Heap):Prop:=∃ (es:Array (Int × Value)) (ep:Nat) (t:SetTable),
 h.get? a = some { cls:=.type "set",dict:=none,data:=.set es ep t,slots := #[] }/\t.fits es.size = true/\t.led = (!w.params.followText "set-order")/\(es.size = 0\/t.plain = false)/\(es.toList.map (·.2)).Perm xs
theorem zX {xs:List Value} {Q:Value->Shared->Prop} (hh:A.handled = none) (hS:II w a xs s.heap) (hz:xs.length < 1000)
 (h:∀ (I:Addr) (fp:List Addr) (n:Nat) (P:Nat->Value->Prop) (St:Nat->Heap->Prop) (us:List Value) d h',Walks prog w A I fp [I] n P St->us.length = n->St 0 h'->(∀ b∈fp,b < h'.objs.size)->(∀ b o,s.heap.get? b = some o->b≠I/\h'.get? b = some o)->us.Perm xs->(∀ i v,P i v->us[i]? = some v)->(∀ b∈fp,b = a\/s.heap.objs.size<=b) ->
   Q (.ref I) { s with drawn:=d,heap:=h' }):wpAny (model prog w) A (pyIter (.ref a)) Q E s:=by
 obtain ⟨es,ep,t,g,hf,hl,hp,hu⟩:=hS
 have hsz:es.size = xs.length:=by rw [<- hu.length_eq];simp
 have ha:a < s.heap.objs.size:=aB g
 have pe:∀ (vs:List (Int × Value)),vs.Perm es.toList->∃ us':List Value,us'.Perm xs/\us'.length = es.size/\∀ (i:Nat) (x:Int × Value),vs[i]? = some x->us'[i]? = some x.2:=fun vs pv =>
  ⟨vs.map (·.2),(pv.map _).trans hu,by rw [aj,pv.length_eq,ba],fun i x hx=>by rw [aS,hx];rfl⟩
 refine AX g hf (fun hm=>?_) (fun hb ps d pp=>?_) (by omega) hp
 . cases hb:w.params.followText "set-order" with
   | true =>
     obtain ⟨us',p',l',q'⟩:=pe (txt w a ep es).toList (oB _ _)
     refine h s.heap.objs.size [s.heap.objs.size,a] es.size _ _ us' s.drawn _ (yC (ep:=ep) (I:=s.heap.objs.size) hh (aH ha) hf hb) l' ⟨⟨0,aD _ rfl⟩,ah _ g⟩ (fun b hb=>?_) (fun b o e=>⟨aH (aB e),ah _ e⟩) p' (fun i v ⟨x,hx,hv⟩=>?_) (fun b hb=>by simp at hb;rcases hb with rfl | rfl;exact .inr (ay _);exact .inl rfl)
     . rw [bQ]
       simp at hb
       rcases hb with rfl | rfl
       . exact cS _
       . exact bu ha
     . rw [hv]
       exact q' i x (by simpa using hx)
   | false =>
     have h1:es.size<=1:=by
      rcases hm with z | z
      . rw [hb] at z;cases z
      . exact z
     obtain ⟨us',p',l',q'⟩:=pe es.toList (.refl _)
     refine h s.heap.objs.size [s.heap.objs.size,a] es.size _ _ us' s.drawn _ (yE (ep:=ep) (I:=s.heap.objs.size) hh (aH ha) hf hb (by rw [hl,hb];rfl) h1) l' ⟨⟨0,aD _ rfl,fun _=>rfl,fun z=>by omega⟩,ah _ g⟩ (fun b hb=>?_) (fun b o e=>⟨aH (aB e),ah _ e⟩) p' (fun i v ⟨x,hx,hv⟩=>?_) (fun b hb=>by simp at hb;rcases hb with rfl | rfl;exact .inr (ay _);exact .inl rfl)
     . rw [bQ]
       simp at hb
       rcases hb with rfl | rfl
       . exact cS _
       . exact bu ha
     . rw [hv]
       exact q' i x (by simpa using hx)
 . have hps:∀ p∈ps,p < es.size:=fun p hp=>by simpa using pp.mem_iff.mp hp
   have hpl:ps.length = es.size:=by rw [pp.length_eq];simp
   have pv:(ps.filterMap fun p=>es[p]?).Perm es.toList:=by
    have:=pp.filterMap fun p=>es[p]?
    rwa [ym] at this
   have ev:∀ (ps:List Nat),(∀ p∈ps,p < es.size)->∀ (i p:Nat),ps[i]? = some p->(ps.filterMap fun p=>es[p]?)[i]? = es[p]? := fun ps=>by
    induction ps with
    | nil=>intro _ i p e;simp at e
    | cons q qs ih =>
      intro hq i p e
      have hq0:es[q]? = some (es[q]'(hq q ak)):=bF _
      rw [gL hq0]
      cases i with
      | zero=>simp at e;subst e;simp [hq0]
      | succ i=>simpa using ih (fun p hp=>hq p (av _ hp)) i p (by simpa using e)
   obtain ⟨us',p',l',q'⟩:=pe _ pv
   have W:=yD (prog:=prog) (w:=w) (A:=A) (ep:=ep) (a:=a) (I:=s.heap.objs.size+1) (T:=s.heap.objs.size) hh (aH (bu ha)) (aH (cS _)) hf hps
   have sz:((s.heap.push (plO ps)).push (itO (.ref s.heap.objs.size) 0 a es.size ep)).objs.size = s.heap.objs.size+1+1:=by rw [bQ,bQ]
   refine h (s.heap.objs.size+1) [s.heap.objs.size+1,a,s.heap.objs.size] ps.length _ _ us' d _ W (l'.trans hpl.symm) ⟨?_,ah _ (ah _ g),ah _ (aD _ rfl)⟩ (fun b hb=>?_) (fun b o e=>⟨aH (bu (aB e)),ah _ (ah _ e)⟩) p' (fun i v ⟨p,x,e1,e2,hv⟩=>?_) (fun b hb=>by simp at hb;rcases hb with rfl | rfl | rfl;exact .inr (nz _);exact .inl rfl;exact .inr (ay _))
   . have:((s.heap.push (plO ps)).push (itO (.ref s.heap.objs.size) 0 a es.size ep)).get? (s.heap.push (plO ps)).objs.size = _:=aD _ rfl
     rwa [bQ] at this
   . show b < ((s.heap.push (plO ps)).push (itO (.ref s.heap.objs.size) 0 a es.size ep)).objs.size
     rw [sz]
     simp at hb
     rcases hb with rfl | rfl | rfl
     . exact cS _
     . exact bu (bu ha)
     . exact bu (cS _)
   . rw [hv]
     exact q' i x (by rw [ev ps hps i p e1];exact e2)
end
end PP
end
section
namespace PP
open PySem L2 PyProof.Rows
section
variable {prog:Program} {w:World} {A:Around} {E:Value->Shared->Prop} {s:Shared} {a:Addr}
theorem AQ:typeLookup (.type "set") "__len__" = pure (some (.builtin "set.__len__")):=PySem.F.slot_set_len.lookup
theorem vE {α:Type}:∀ {us vs:List α},us.length = vs.length->(∀ (j:Nat) (v:α),vs[j]? = some v->us[j]? = some v)->us = vs
 | [],[],_,_=>rfl
 | [],_::_,h,_=>by simp at h
 | _::_,[],h,_=>by simp at h
 | u::us,v::vs,h,q=>by
   have e:=q 0 v rfl
   simp at e
   subst e
   rw [vE (by simpa using h) fun j x hj=>q (j+1) x (by simpa using hj)]
theorem EW {id:String} {args:Args} {b:Builtin} {R:Result->Shared->Prop} (hb:entryFor table id = some b) (hp:plainId id = true)
 (h:wpAny (model prog w) A.in1 (b args) (fun fin s'=>match fin with | .done f=>R (.ok f) s' | .again c'=>c'.quiet = true/\codeAny (model prog w) A c' R s') (fun e s'=>R (.error e) s') s):codeAny (model prog w) A (.builtin id args) R s :=
 gy hb (by rw [fB hp args];exact h)
theorem sO {xs:List Value} {Q:List Value->Shared->Prop} (hh:A.handled = none) (hS:II w a xs s.heap) (hz:xs.length < 1000)
 (h:∀ (vs:List Value) d tk h',vs.Perm xs->(∀ b o,s.heap.get? b = some o->h'.get? b = some o)->Q vs { s with drawn:=d,toks:=tk,heap:=h' }) :
 wpAny (model prog w) A (collect (.ref a)) Q E s:=by
 have ha:a < s.heap.objs.size:=by obtain ⟨es,ep,t,g,_⟩:=hS;exact aB g
 have hsa:s.heap.objs.size≠a:=fun z=>cI _ (by rw [z] at ha;exact ha)
 unfold collect
 refine ag (wpAny_runValue (EW F.entry_proto_collect F.plain_proto_collect ?_))
 show wpAny _ A.in1 (newList [] >>= fun l=>again (.builtin "list.__iadd__" ⟨[l,.ref a],[]⟩)) _ _ s
 refine ag (bw (ar ⟨iD F.plain_list_iadd _,EW F.entry_list_iadd F.plain_list_iadd ?_⟩))
 generalize ho:({ cls:=.type "list",data:=.seq ([]:List Value).toArray }:Obj) = lo
 have g0:(s.heap.push lo).get? s.heap.objs.size = some lo:=aD _ (by rw [<- ho];rfl)
 have hS1:II w a xs (s.heap.push lo):=by
  obtain ⟨es,ep,t,g,r⟩:=hS
  exact ⟨es,ep,t,ah _ g,r⟩
 have hT:({ s with heap:=s.heap.push lo }:Shared).TypeIs (.ref a) "set":=by
  obtain ⟨es,ep,t,g,r⟩:=hS1
  exact ⟨_,g,rfl⟩
 show wpAny _ A.in1 (Builtin.List.listExtendWith (.ref s.heap.objs.size) (.ref a) (.ref s.heap.objs.size)) _ _ _
 unfold Builtin.List.listExtendWith
 refine ag (nZ hT ?_)
 have nr:Builtin.List.listSameRef (.ref s.heap.objs.size) (.ref a) = false:=by simp [Builtin.List.listSameRef,hsa]
 rw [if_neg (by rw [nr];decide)]
 refine ag (zX (A:=A.in1) hh hS1 hz fun I fp n P St us d h2 W hn st hf hk hu hP hfp=>?_)
 refine ag (cN ?_)
 unfold Builtin.List.listLengthHint
 have hT2:({ s with heap:=h2,drawn:=d }:Shared).TypeIs (.ref a) "set":=by
  obtain ⟨es,ep,t,g,r⟩:=hS1
  exact ⟨_,(hk _ _ g).2,rfl⟩
 refine ag (gw hT2 AQ ?_)
 dsimp only
 rw [show splitId "set.__len__" = some ("set","__len__") from by decide +kernel]
 dsimp only
 refine ag (qF (b:=true) hT2 (by rw [uF];kernel_rfl) ?_)
 rw [if_neg (by decide),if_pos (by kernel_rfl)]
 refine ag (nZ hT2 (ar ?_))
 rw [if_pos (by decide +kernel)]
 have gS:h2.get? s.heap.objs.size = some lo:=(hk _ _ g0).2
 subst ho
 have hSf:s.heap.objs.size∉fp:=fun hm=>by
  rcases hfp _ hm with z | z
  . exact hsa z
  . rw [show ({ s with heap:=s.heap.push _ }:Shared).heap.objs.size = s.heap.objs.size+1 from bQ ..] at z
    exact cI _ z
 have g3:=sY gS fun xs=>xs.push Value.none
 have g4:=sY g3 fun xs=>xs.pop
 refine ag (IL (ag ?_))
 unfold Builtin.List.listTouch
 refine ag (iE gS rfl (iE (s:={ s with drawn:=d,heap:=h2.update s.heap.objs.size (Obj.mapSeq fun xs=>xs.push Value.none) }) g3 rfl ?_ (by rw [bM];simp) (by rw [bM];simp)) (by rw [bM];simp) (by rw [bM];simp))
 have up:∀ {h:Heap} {f:Obj->Obj} {b:Addr} {o:Obj},b≠s.heap.objs.size->h.get? b = some o->(h.update s.heap.objs.size f).get? b = some o:=fun hb e=>(fe _ _ (Ne.symm hb)).trans e
 have st4:=W.frame 0 _ ((h2.update s.heap.objs.size (Obj.mapSeq fun xs=>xs.push Value.none)).update s.heap.objs.size (Obj.mapSeq fun xs=>xs.pop)) st fun b hb o e=>up (fun z=>hSf (z▸hb)) (up (fun z=>hSf (z▸hb)) e)
 refine ar ⟨iD F.plain_extend_loop _,codeAny_extend_loopS W.toS (by rw [<- hn,hu.length_eq,bM];omega) _ hSf _ n 0 _ #[] _ rfl (bA _) st4 g4 (ItemsOf.nil P) fun s' acc c hm hS' hac=>?_⟩
 show wpAny _ A (load s.heap.objs.size >>= _) _ _ s'
 refine ag (wpAny_load hS' (ar ?_))
 obtain ⟨hp',gn',dr',tk',os'⟩:=s'
 obtain ⟨m1,m2,m3,m4,m5⟩:=hm
 obtain rfl:gn' = s.gens:=m2
 obtain rfl:dr' = d:=m3
 obtain rfl:os' = s.os:=m4
 have ea:us = acc.toList:=vE (hn.trans (hac.1.symm.trans ba.symm)) fun j v hj=>hP j v (hac.2 j v (by simpa using hj))
 refine h acc.toList _ tk' hp' (by rw [<- ea];exact hu) fun b o e=>?_
 have hb:b≠s.heap.objs.size:=aH (aB e)
 have hb2:=hk b o (ah _ e)
 exact m1 b o (by simp [hb,hb2.1]) (up hb (up hb hb2.2))
theorem oD {α β:Type} {R:α->β->Prop} {ys' ys:List β} (p:List.Perm ys' ys):∀ xs,Paired R xs ys->∃ xs',xs'.Perm xs/\Paired R xs' ys':=by
 induction p with
 | nil=>intro us r;exact ⟨us,.refl _,r⟩
 | cons x _ ih =>
   intro us r
   cases r with
   | cons r t =>
     obtain ⟨us',p',r'⟩:=ih _ t
     exact ⟨_,p'.cons _,.cons r r'⟩
 | swap x y l =>
   intro us r
   cases r with
   | cons r1 t =>
     cases t with
     | cons r2 t=>exact ⟨_,.swap _ _ _,.cons r2 (.cons r1 t)⟩
 | trans _ _ i1 i2 =>
   intro us r
   obtain ⟨u1,p1,r1⟩:=i2 us r
   obtain ⟨u2,p2,r2⟩:=i1 u1 r1
   exact ⟨u2,p2.trans p1,r2⟩
end
end PP
end
section
namespace PP
open PySem L2 PyProof.Rows PySem.SeqAt
noncomputable def jP (w:World) (a:Addr) (xs:List (Int × Value)) (h:Heap):Prop:=∃ (es:Array (Int × Value)) (ep:Nat) (t:SetTable),
 h.get? a = some { cls:=.type "set",dict:=none,data:=.set es ep t,slots := #[] }/\TbI t (es.toList.map (·.1))/\t.led = (!w.params.followText "set-order")/\(es.size = 0\/t.plain = false)/\es.toList.Perm xs/\es.size * 5 < t.mask * 3
theorem xM {m n:Nat} (hm:mk m) (h1:n<=64) (h2:n<=m) (h3:n * 5 ≥ m * 3):mk (SetTable.sizeAbove (SetTable.grown n) - 1)/\n<=SetTable.sizeAbove (SetTable.grown n) - 1/\SetTable.sizeAbove (SetTable.grown n)<=128/\n * 5 < (SetTable.sizeAbove (SetTable.grown n) - 1) * 3:=by
 have key:∀ m n:Nat,(m = 7\/m = 31\/m = 127)->n < 65->n<=m->n * 5 ≥ m * 3->(SetTable.sizeAbove (SetTable.grown n) - 1 = 7\/SetTable.sizeAbove (SetTable.grown n) - 1 = 31\/SetTable.sizeAbove (SetTable.grown n) - 1 = 127)/\n<=SetTable.sizeAbove (SetTable.grown n) - 1/\SetTable.sizeAbove (SetTable.grown n)<=128/\n * 5 < (SetTable.sizeAbove (SetTable.grown n) - 1) * 3:=by
  have k7:∀ n < 65,n<=7->n * 5 ≥ 7 * 3->(SetTable.sizeAbove (SetTable.grown n) - 1 = 7\/SetTable.sizeAbove (SetTable.grown n) - 1 = 31\/SetTable.sizeAbove (SetTable.grown n) - 1 = 127)/\n<=SetTable.sizeAbove (SetTable.grown n) - 1/\SetTable.sizeAbove (SetTable.grown n)<=128/\n * 5 < (SetTable.sizeAbove (SetTable.grown n) - 1) * 3:=by decide +kernel
  have k31:∀ n < 65,n<=31->n * 5 ≥ 31 * 3->(SetTable.sizeAbove (SetTable.grown n) - 1 = 7\/SetTable.sizeAbove (SetTable.grown n) - 1 = 31\/SetTable.sizeAbove (SetTable.grown n) - 1 = 127)/\n<=SetTable.sizeAbove (SetTable.grown n) - 1/\SetTable.sizeAbove (SetTable.grown n)<=128/\n * 5 < (SetTable.sizeAbove (SetTable.grown n) - 1) * 3:=by decide +kernel
  rintro m n (rfl | rfl | rfl) a b c
  . exact k7 n a b c
  . exact k31 n a b c
  . omega
 exact key m n hm (by omega) h2 h3
variable [Tbs]
section
variable {prog:Program} {w:World} {A:Around} {E:Value->Shared->Prop} {s:Shared}
theorem rQ {a:Addr} {es es1:Array (Int × Value)} {ep:Nat} {t t2:SetTable} {xs:List (Int × Value)} {Q:Bool->Shared->Prop} (g:s.heap.get? a = some { cls:=.type "set",dict:=none,data:=.set es ep t,slots := #[] })
 (T:TbI t2 (es1.toList.map (·.1))) (hl:t2.led = (!w.params.followText "set-order")) (hp:t2.plain = false) (hq:es1.toList.Perm xs) (hr:xs.length<=64) (hn:es1.size = es.size+1)
 (fin:∀ h',Heap.SameBut a s.heap h'->jP w a xs h'->Q true { s with heap:=h' }) :
 wpAny (model prog w) A (do
  storeSet a es1 t2
  if (!false && t2.tooFull) = true then do
   setRelay a (SetTable.grown (es.size+1))
   pure true
  else pure true) Q E s:=by
 have hsz:es1.size = xs.length:=by rw [<- ba,hq.length_eq]
 have k1:=uY (es':=es1) (t':=t2) g
 have sb1:=cn s.heap a (Obj.putSet es1 t2)
 have z1:es1.size < scanBound:=gA (show es1.size<=64 by omega) (by decide)
 refine ag (IQ g rfl ?_ (IT z1))
 split
 . rename_i hf
   have hf':t2.place.size * 5 ≥ t2.mask * 3:=by
    have:t2.tooFull = true:=hf
    unfold SetTable.tooFull SetTable.fill at this
    rw [T.dm] at this
    simpa using this
   have hpl:t2.place.size = es1.size:=by have:=T.len;simpa using this
   have hfew:es1.size<=t2.mask:=by have:=T.few;simpa using this
   obtain ⟨m1,m2,m3,m4⟩:=xM T.mok (n:=es1.size) (by omega) hfew (by omega)
   rw [<- hn]
   unfold setRelay
   refine ag (ag (cc (s:={ s with heap:=s.heap.update a (Obj.putSet es1 t2) }) k1 rfl (fits_of T (by simp)) ?_))
   dsimp only
   rw [if_neg (by rw [bM];omega)]
   obtain ⟨t3,order,e,po,T3,l3,p3,mm3⟩:=DT m1 t2.finger (t2.movedTo (SetTable.sizeAbove (SetTable.grown es1.size) - 1)) t2.led t2.plain (es1.map (·.1)) (by simpa using m2)
   have hz:(es1.map (·.1)).size = es1.size:=by simp
   rw [hz] at po
   have pe:(order.filterMap (es1[·]?)).toList.Perm es1.toList:=by
    have:=po.filterMap (es1[·]?)
    rw [ym] at this
    rw [tj]
    exact this
   have sz3:(order.filterMap (es1[·]?)).size = es1.size:=by
    rw [<- ba,pe.length_eq,ba]
   have T3':TbI t3 ((order.filterMap (es1[·]?)).toList.map (·.1)):=by
    have:(order.filterMap (es1[·]?)).toList.map (·.1) = order.toList.filterMap ((es1.map (·.1))[·]?):=by
     rw [tj,List.map_filterMap]
     congr 1
     funext k
     simp
    rw [this]
    exact T3
   refine ag (ia (a:=(order.filterMap (es1[·]?),t3)) ?_ ?_)
   . rw [show t2.relaid (es1.map (·.1)) (SetTable.grown es1.size) = some (t3,order) from e]
     show (if ((order.filterMap (es1[·]?)).size != es1.size) = true then _ else _) = _
     rw [if_neg (by rw [sz3];simp)]
   . dsimp only
     refine IQ (s:={ s with heap:=s.heap.update a (Obj.putSet es1 t2) }) k1 rfl ?_ (IT (by rw [sz3];exact z1))
     refine ar (fin _ (sb1.trans (cn _ a _)) ⟨_,_,t3,uY k1,T3',l3.trans hl,.inr (p3.trans hp),pe.trans hq,by rw [sz3,mm3];exact m4⟩)
 . rename_i hf
   refine ar (fin _ sb1 ⟨es1,_,t2,k1,T,hl,.inr hp,hq,?_⟩)
   have hpl:t2.place.size = es1.size:=by have:=T.len;simpa using this
   have:¬ (t2.tooFull = true):=hf
   unfold SetTable.tooFull SetTable.fill at this
   rw [T.dm] at this
   simp at this
   omega
theorem zY {a:Addr} {xs:List (Int × Value)} {ds:List D} {d:D} {x:Value} {Q:Bool->Shared->Prop} (hu:A.units+20 < cLine) (hS:jP w a xs s.heap) (he:IK w s.heap ds xs) (hx:hok d = true) (rx:RdV s.heap d x) (hr:xs.length+1<=64)
 (old:d∈ds->Q false { s with toks:=s.toks+nD d }) (new:d∉ds->∀ h',Heap.SameBut a s.heap h'->jP w a (xs++[(hD w d,x)]) h'->Q true { s with heap:=h',toks:=s.toks+nD d }):wpAny (model prog w) A (setAdd a x) Q E s:=by
 obtain ⟨es,ep,t,g,T,hl,hp,hq,hmk⟩:=hS
 obtain ⟨hb1,hd1,_⟩:=dG hx
 obtain ⟨b,rfl⟩:=lA hx rx
 obtain ⟨us,pu,hu'⟩:=oD hq ds he
 have hsz:es.size = xs.length:=by rw [<- ba,hq.length_eq]
 have hf:t.fits es.size = true:=fits_of T (by simp)
 unfold setAdd
 refine cN (ag (Bf d A E s _ _ hb1 rx (by omega) ?_))
 unfold setAddHashed
 refine cN ?_
 show wpAny _ _ (setAddHashedIn a (.ref b) (hD w d) (99999+1)) _ _ _
 unfold setAddHashedIn
 refine ag (cc (s:={ s with toks:=s.toks+nD d }) g rfl hf ?_)
 dsimp only
 rw [if_neg (by unfold byScan;simp [Value.scannable])]
 refine ag (zZ (s:={ s with toks:=s.toks+nD d }) hu g T hu' hx rx (fun hm=>ar (old (pu.mem_iff.mp hm))) fun hm N n1 n2=>?_)
 dsimp only
 refine ag (cc (s:={ s with toks:=s.toks+nD d }) g rfl hf ?_)
 have few:es.size+1<=t.mask:=by
  rcases T.mok with z | z | z<;>omega
 obtain ⟨T1,p1,l1,pl1,m1⟩:=T.put n1 n2 (by simpa using few)
 dsimp only
 have le:(SetTable.insertAt es (t.put (ps t.mask (hD w d) N)).2 (hD w d,Value.ref b)).toList = jH es.toList (t.put (ps t.mask (hD w d) N)).2 (hD w d,Value.ref b):=SetTable.toList_insertAt _ _ _
 have lh:(SetTable.insertAt es (t.put (ps t.mask (hD w d) N)).2 (hD w d,Value.ref b)).toList.map (·.1) = jH (es.toList.map (·.1)) (t.put (ps t.mask (hD w d) N)).2 (hD w d):=by
  rw [le]
  unfold jH
  rw [bS,aI,List.map_take,List.map_drop]
 rw [<- lh] at T1
 have pe:(SetTable.insertAt es (t.put (ps t.mask (hD w d) N)).2 (hD w d,Value.ref b)).toList.Perm (xs++[(hD w d,Value.ref b)]):=by
  refine (SetTable.insertAt_perm _ _ _).trans ?_
  rw [yA]
  exact hq.append (.refl _)
 have sn:(SetTable.insertAt es (t.put (ps t.mask (hD w d) N)).2 (hD w d,Value.ref b)).size = es.size+1:=by
  rw [<- ba,le,jF,ba]
 have fin:∀ h',Heap.SameBut a s.heap h'->jP w a (xs++[(hD w d,Value.ref b)]) h'->Q true { s with heap:=h',toks:=s.toks+nD d }:=new fun z=>hm (pu.mem_iff.mpr z)
 have hr':(xs++[(hD w d,Value.ref b)]).length<=64:=by rw [az,cb];exact hr
 by_cases hpl:(t.put (ps t.mask (hD w d) N)).1.plain = true
 . rw [if_pos hpl]
   refine ag (yg (s:={ s with toks:=s.toks+nD d }) hx rx ?_)
   exact rQ (s:={ s with toks:=s.toks+nD d }) (t2:={ (t.put (ps t.mask (hD w d) N)).1 with plain:=false }) g ⟨T1.mok,T1.dm,T1.srt,T1.le,T1.len,T1.few,T1.rch⟩ (l1.trans hl) rfl pe hr' sn fin
 . rw [if_neg hpl]
   refine ag (ar ?_)
   exact rQ (s:={ s with toks:=s.toks+nD d }) (t2:=(t.put (ps t.mask (hD w d) N)).1) g T1 (l1.trans hl) (by simpa using hpl) pe hr' sn fin
end
end PP
end
section
namespace PP
open PySem L2 PyProof.Rows PySem.W
noncomputable def ltS (a b:Str):Bool:=decide (a.cps.toList < b.cps.toList)
theorem AE (a b:Str) (h:ltS a b = true):ltS b a = false:=by
 unfold ltS at h ⊢
 rw [decide_eq_true_eq] at h
 rw [decide_eq_false_iff_not]
 exact List.lt_asymm h
theorem HJ (a b c:Str) (h1:ltS b a = false) (h2:ltS c b = false):ltS c a = false:=by
 unfold ltS at h1 h2 ⊢
 rw [decide_eq_false_iff_not] at h1 h2 ⊢
 exact List.le_trans h1 h2
theorem HK (a b:Str) (h1:ltS a b = false) (h2:ltS b a = false):a = b:=by
 unfold ltS at h1 h2
 rw [decide_eq_false_iff_not] at h1 h2
 have:=List.le_antisymm h2 h1
 obtain ⟨⟨x⟩⟩:=a
 obtain ⟨⟨y⟩⟩:=b
 simp at this
 rw [this]
theorem Cv {α:Type} [Inhabited α] {lt:α->α->Bool} {ys:List α} (h:∀ i j,i<=j->j < ys.length->lt (ys.getD j default) (ys.getD i default) = false):ys.Pairwise fun a b=>lt b a = false:=by
 rw [gC]
 intro i j hi hj hij
 have:=h i j (iG hij) hj
 simpa [List.getD,ax hi,ax hj] using this
variable [Tbs]
end PP
end
section
namespace PP
open PySem PySem.Spec L2 PyProof.Rows
section
variable {prog:Program} {w:World} {A:Around} {R:Result->Shared->Prop} {s:Shared}
end
end PP
end
section
namespace PP
open PySem PySem.Spec L2 PyProof.Rows
noncomputable def mE (led:Bool):Obj:={ cls:=.type "set",dict:=none,data:=.set #[] 0 (.fresh 0 0 led) }
end PP
end
section
namespace PP
open PySem PySem.Spec L2 PyProof.Rows
section
variable {prog:Program} {w:World} {A:Around} {R:Result->Shared->Prop} {I:Addr} {fp wr:List Addr} {G:Array GenState->Array GenState->Prop} {n:Nat} {P:Nat->Value->Prop} {St:Nat->Shared->Prop}
end
section
variable {prog:Program} {w:World} {A:Around} {E:Value->Shared->Prop} {s:Shared}
theorem qp (a:Value) {Q₁:Value->Shared->Prop} (h:Q₁ (.ref s.heap.objs.size) { s with heap:=s.heap.push (mE (!w.params.followText "set-order")) }) :
 codeAny (model prog w) A (.call (.builtin "set.__new__") ⟨[.type "set",a],[]⟩) (wants Q₁ E) s:=by
 refine codeAny_of_tree (ag (m:=checkBuiltinCall "set.__new__" _) (ia (PySem.F.newCall_set_1 a) (ar ⟨iD PySem.F.plain_set_new _,gy PySem.F.entry_set_new ?_⟩)))
 rw [fB PySem.F.plain_set_new _]
 unfold Builtin.«set.__new__» Builtin.Frozenset.newClass
 have z:=sub_set_self
 obtain ⟨hp,g,d,tk,os⟩:=s
 dsimp only
 wp_walk
 refine eK (ar ?_)
 dsimp only
 simp only [newObj]
 exact ag (wpAny_alloc (ar (ar h)))
theorem tZ {l:Addr} {items:Array Value} {Z:Heap->Prop} {Q:Value->Shared->Prop} (hh:A.handled = none) (hl:s.heap.IsList l items)
 (loop:∀ (A':Around) (I:Addr) (St:Nat->Shared->Prop) (G:Array GenState->Array GenState->Prop) (s1:Shared) (R:Result->Shared->Prop),I = s.heap.objs.size+1->A'.units<=A.units+10->WalksS prog w A'.in1 I [I,l] [I] G items.size (fun i v=>items[i]? = some v) St->s.heap.objs.size∉[I,l]->St 0 s1->(∀ b o,s.heap.get? b = some o->s1.heap.get? b = some o)->s1.heap.get? s.heap.objs.size = some (mE (!w.params.followText "set-order")) ->
   (∀ s',Moved [s.heap.objs.size,I] G s1 s'->Z s'.heap->R (.ok (.ret .none)) s')->codeAny (model prog w) A' (.builtin "set.update.loop" ⟨[.ref s.heap.objs.size,.ref I],[]⟩) R s1)
 (h:∀ (h':Heap) (tk:Nat),Z h'->(∀ b o,s.heap.get? b = some o->h'.get? b = some o)->Q (.ref s.heap.objs.size) { s with heap:=h',toks:=tk }) :
 wpAny (model prog w) A (call (.type "set") [.ref l]) Q E s:=by
 obtain ⟨c,tl,hmro⟩:=PySem.F.called_set.mro
 have y1:=PySem.F.called_set.made
 have y2:=PySem.F.called_set.sub
 have y3:=PySem.F.called_set.notType
 have y4:=PySem.F.called_set.canCreate
 have y5:=PySem.F.typeCall_set_1 (.ref l)
 refine wpAny_call (codeAny_of_tree (ar ⟨Code.quiet_builtin _ (by decide +kernel),gy PySem.F.entry_type_call ?_⟩))
 rw [Around.under_plain (weight_type_call_type "set" [.ref l] []) rfl]
 repeat (any_goals (first | assumption | wp_step))
 refine gJ (qp (.ref l) (E:=E) (Q₁:=fun v s1=>v = .ref s.heap.objs.size/\s1 = { s with heap:=s.heap.push (mE (!w.params.followText "set-order")) }) ⟨rfl,rfl⟩) fun r s1 hr=>?_
 cases r with
 | error e=>exact hr
 | ok fl =>
   cases fl with
   | ret v =>
     obtain ⟨rfl,rfl⟩:=hr
     have gS:(s.heap.push (mE (!w.params.followText "set-order"))).get? s.heap.objs.size = some (mE (!w.params.followText "set-order")):=aD _ rfl
     have hT:Shared.TypeIs { s with heap:=s.heap.push (mE (!w.params.followText "set-order")) } (.ref s.heap.objs.size) "set":=⟨_,gS,rfl⟩
     have y6:=PySem.F.called_set.init.lookup
     have y7:=PySem.F.called_set.init.bind (.ref s.heap.objs.size)
     repeat (any_goals (first | assumption | wp_step))
     refine gJ (codeAny_call_builtin (R:=wants (fun r s2=>r = .none/\∃ h' tk,s2 = { s with heap:=h',toks:=tk }/\Z h'/\∀ b o,s.heap.get? b = some o->h'.get? b = some o) E) PySem.F.called_set.init.plain PySem.F.entry_set_init (check_set_init_1 hT ?_)) fun r2 s2 hr2=>?_
     . obtain ⟨ol,hol,hcl,nl,hdl⟩:=hl
       obtain ⟨ocls,odict,odata,oslots⟩:=ol
       simp only at hcl hdl
       subst hcl;subst hdl
       have hol':(s.heap.push (mE (!w.params.followText "set-order"))).get? l = some { cls:=.type "list",dict:=odict,data:=.seq items nl,slots:=oslots }:=ah _ hol
       have y8:=PySem.F.sub_list_set
       have y9:=PySem.F.sub_list_frozenset
       have ya:(Value.type "list" == Value.type "dict") = false:=by decide
       have hl1:(s.heap.push (mE (!w.params.followText "set-order"))).IsList l items:=⟨_,hol',rfl,nl,rfl⟩
       unfold mE at gS hT hol' hl1 ⊢
       unfold Builtin.«set.__init__» noKeywords Builtin.Frozenset.updateFrom
       generalize hPI:pyIter = PI
       wp_walk
       subst hPI
       refine hZ hl1 (ag (wpAny_runValue ?_))
       have lS:l < s.heap.objs.size:=aB hol
       have z1:(s.heap.push (mE (!w.params.followText "set-order"))).objs.size = s.heap.objs.size+1:=bQ _ _
       unfold mE at z1
       refine loop _ _ _ _ _ _ z1 (by show A.units+1+1<=A.units+10;omega) ((yo (by simp [hh]) _ l (by rw [z1];exact aH (bu lS)) items).toS) (by rw [z1];simp only [aQ,fy,or_false,not_or];exact ⟨aH (cS _),uH lS⟩) ⟨⟨_,aD _ rfl,rfl,rfl⟩,(hl1.push _)⟩ (fun b o e=>ah _ (ah _ e)) (ah _ gS) ?_
       . intro s' m hS'
         obtain ⟨h',g',d',tk',os'⟩:=s'
         have eg:g' = s.gens:=m.gens
         have ed:d' = s.drawn:=m.drawn
         have eo:os' = s.os:=m.os
         subst eg ed eo
         refine ar (ar ⟨rfl,h',tk',rfl,hS',fun b o e=>?_⟩)
         have lb:=aB e
         refine m.heap b o ?_ (ah _ (ah _ e))
         simp only [aQ,fy,or_false,not_or]
         exact ⟨aH lb,by rw [z1];exact aH (bu lb)⟩
     . cases r2 with
       | error e=>exact hr2
       | ok fl2 =>
         cases fl2 with
         | ret r =>
           obtain ⟨rfl,h',tk,rfl,x1,x2⟩:=hr2
           repeat (any_goals (first | assumption | wp_step))
           exact h _ _ x1 x2
         | _=>exact hr2.elim
   | _=>exact hr.elim
end
variable [Tbs]
end PP
end
section
namespace PP
open PySem PySem.Spec L2 PyProof.Rows
noncomputable def eH (ps:List (D × V)) (p:D × V):List (D × V):=if ps.any (fun q=>eqD q.1 p.1) then ps else ps++[p]
theorem BI (ps:List (D × V)) (p:D × V):(eH ps p).map (·.1) = kW (ps.map (·.1)) p.1:=by
 unfold eH kW
 rw [List.any_map]
 show _ = if (ps.any fun q=>eqD q.1 p.1) = true then _ else _
 split
 . rfl
 . rw [bS];rfl
theorem oS:∀ (xs ps:List (D × V)),(xs.foldl eH ps).map (·.1) = (xs.map (·.1)).foldl kW (ps.map (·.1))
 | [],ps=>rfl
 | x::xs,ps=>by rw [eO,oS xs,BI];rfl
theorem oQ {q:D × V}:∀ (xs ps:List (D × V)),q∈xs.foldl eH ps->q∈ps\/q∈xs
 | [],ps,h=>.inl h
 | x::xs,ps,h=>by
   rcases oQ xs (eH ps x) h with h | h
   . unfold eH at h
     split at h
     . exact .inl h
     . rcases cg.mp h with h | h
       . exact .inl h
       . rw [dE] at h
         exact .inr (by rw [h];exact ak)
   . exact .inr (av _ h)
theorem sV (ps:List (D × V)) (p:D × V):ps.length<=(eH ps p).length:=by
 unfold eH
 split
 . exact ay _
 . simp
theorem oR:∀ (xs ps:List (D × V)),ps.length<=(xs.foldl eH ps).length
 | [],ps=>ay _
 | x::xs,ps=>bK (sV ps x) (oR xs _)
noncomputable def vv:V->Value
 | .ref a=>.ref a
 | _=>.none
noncomputable def sI (w:World) (p:D × V):Int × Value:=(hD w p.1,vv p.2)
variable [Tbs]
theorem we {ps:List (D × V)} {d:D} (hd:hok d = true) (hp:∀ q∈ps,hok q.1 = true):(ps.any fun q=>eqD q.1 d) = true↔d∈ps.map (·.1):=by
 rw [cR,aR]
 constructor
 . rintro ⟨q,h1,h2⟩
   exact ⟨q,h1,(fb _ _ (dG (hp q h1)).1 (dG hd).1).mp h2⟩
 . rintro ⟨q,h1,h2⟩
   exact ⟨q,h1,(fb _ _ (dG (hp q h1)).1 (dG hd).1).mpr h2⟩
theorem sJ {w:World} {h:Heap}:∀ (ps:List (D × V)),(∀ q∈ps,hok q.1 = true/\RdV h q.1 (vv q.2))->IK w h (ps.map (·.1)) (ps.map (sI w))
 | [],_=>.nil
 | q::ps,hq=>.cons ⟨rfl,hq q ak⟩ (sJ ps fun r hr=>hq r (av _ hr))
section
variable {prog:Program} {w:World} {A:Around} {R:Result->Shared->Prop} {I:Addr} {fp wr:List Addr} {G:Array GenState->Array GenState->Prop} {n:Nat} {P:Nat->Value->Prop} {St:Nat->Shared->Prop}
theorem zr (hu:A.units+40 < cLine) (W:WalksS prog w A.in1 I fp wr G n P St) (S:Addr) (hSf:S∉fp) (h0:Heap) (n0:∀ b∈S::wr,h0.get? b = none) (xs:List (D × V)) (hx:∀ i v,P i v->∃ q,xs[i]? = some q/\v = vv q.2) (hr:∀ q∈xs,hok q.1 = true/\RdV h0 q.1 (vv q.2)) (hn:xs.length = n) :
 ∀ (k i:Nat) (s:Shared) (ps:List (D × V)),n - i = k->i<=n->(∀ q∈ps,hok q.1 = true/\RdV h0 q.1 (vv q.2))->((xs.drop i).foldl eH ps).length < 64->St i s->(∀ b o,h0.get? b = some o->s.heap.get? b = some o)->jP w S (ps.map (sI w)) s.heap ->
  (∀ s',Moved (S::wr) G s s'->jP w S (((xs.drop i).foldl eH ps).map (sI w)) s'.heap->R (.ok (.ret .none)) s')->codeAny (model prog w) A (.builtin "set.update.loop" ⟨[.ref S,.ref I],[]⟩) R s:=by
 have nw:S∉wr:=fun z=>hSf (W.sub _ z)
 have sub:∀ b∈wr,b∈S::wr:=fun b z=>.tail _ z
 have stay:∀ {s s':Shared} {ys:List (Int × Value)},Moved wr G s s'->jP w S ys s.heap->jP w S ys s'.heap:=fun m ⟨es,ep,t,g,r⟩=>⟨es,ep,t,m.heap S _ nw g,r⟩
 have keep:∀ {s s':Shared},Moved wr G s s'->(∀ b o,h0.get? b = some o->s.heap.get? b = some o)->∀ b o,h0.get? b = some o->s'.heap.get? b = some o:=fun m hk b o e=>m.heap b o (fun z=>by rw [n0 b (sub b z)] at e;cases e) (hk b o e)
 intro k
 induction k with
 | zero =>
   intro i s ps hk hi hp hl st h0k hS fin
   obtain rfl:i = n:=by omega
   refine gy gK ?_
   rw [fB cF _]
   refine ag (m:=pyNext (.ref I)) (W.done s _ _ st fun s' m=>ar (fin s' (m.mono sub) ?_))
   rw [List.drop_of_length_le (by omega)]
   exact stay m hS
 | succ k ih =>
   intro i s ps hk hi hp hl st h0k hS fin
   refine gy gK ?_
   rw [fB cF _]
   refine ag (m:=pyNext (.ref I)) (W.item i s _ _ (by omega) st fun v s1 p st1 m=>?_)
   obtain ⟨q,hq,rfl⟩:=hx i v p
   obtain ⟨q1,q2⟩:=hr q (aO hq)
   have hk1:=keep m h0k
   have hlt:i < xs.length:=by omega
   have ed:xs.drop i = q::xs.drop (i+1):=by
    rw [en hlt]
    congr 1
    rw [ax hlt] at hq
    exact aX hq
   rw [ed,eO] at hl fin
   have l1:=oR (xs.drop (i+1)) (eH ps q)
   have l2:=sV ps q
   have hp1:∀ r∈eH ps q,hok r.1 = true/\RdV h0 r.1 (vv r.2):=fun r hr'=>by
    unfold eH at hr'
    split at hr'
    . exact hp r hr'
    . rcases cg.mp hr' with z | z
      . exact hp r z
      . rw [dE] at z;rw [z];exact ⟨q1,q2⟩
   refine ag (m:=holding [vv q.2] (setAdd S (vv q.2))) (cN (zY (ds:=ps.map (·.1)) (d:=q.1) (by show A.units+1+20 < cLine;omega) (stay m hS) (sJ ps fun r hr'=>⟨(hp r hr').1,RdV.keep hk1 _ _ (hp r hr').2⟩) q1 (RdV.keep hk1 _ _ q2) (by rw [aj];omega) (fun hm=>?_) fun hm h' sb hS1=>?_))
   . have ea:eH ps q = ps:=by
      unfold eH
      rw [if_pos ((we q1 fun r hr'=>(hp r hr').1).mpr hm)]
     rw [ea] at hl fin
     refine ar ⟨iD cF _,ih (i+1) _ ps (by omega) (by omega) hp hl (W.frame _ s1 _ _ st1 (fH _ _) fun b z o e=>e) hk1 (show jP w S _ s1.heap from stay m hS) fun s2 m2 hS2=>fin s2 (Moved.trans W.gtrans ((m.mono sub).then_heap (fH _ _) fun b o z e=>e) m2) hS2⟩
   . have ea:eH ps q = ps++[q]:=by
      unfold eH
      rw [if_neg fun z=>hm ((we q1 fun r hr'=>(hp r hr').1).mp z)]
     have em:ps.map (sI w)++[(hD w q.1,vv q.2)] = (eH ps q).map (sI w):=by rw [ea,bS];rfl
     rw [em] at hS1
     refine ar ⟨iD cF _,ih (i+1) _ (eH ps q) (by omega) (by omega) hp1 hl (W.frame _ s1 _ _ st1 (fH _ _) fun b z o e=>?_) (fun b o e=>?_) hS1 fun s2 m2 hS2=>fin s2 (Moved.trans W.gtrans ((m.mono sub).then_heap (fH _ _) fun b o z e=>?_) m2) hS2⟩
     . rw [sb.2 b (fun z'=>hSf (z'▸z))];exact e
     . rw [sb.2 b (fun z'=>by rw [z',n0 S ak] at e;cases e)];exact hk1 b o e
     . rw [sb.2 b (fun z'=>z (z'▸ak))];exact e
end
section
variable {prog:Program} {w:World} {A:Around} {E:Value->Shared->Prop} {s:Shared}
theorem xN (fg mv:Nat) (led:Bool):TbI (.fresh fg mv led) []:=⟨.inl rfl,rfl,.nil,fun j h=>by simp [SetTable.fresh] at h,rfl,bA _,fun i j h a=>by simp [SetTable.fresh] at a⟩
theorem rF {l:Addr} {items:Array Value} {xs:List (D × V)} {Q:Value->Shared->Prop} (hu:A.units+100 < cLine) (hh:A.handled = none) (hl:s.heap.IsList l items) (hi:items.toList = xs.map fun q=>vv q.2) (hr:∀ q∈xs,hok q.1 = true/\RdV s.heap q.1 (vv q.2)) (hb:(xs.foldl eH []).length < 64)
 (h:∀ (h':Heap) (tk:Nat),jP w s.heap.objs.size ((xs.foldl eH []).map (sI w)) h'->(∀ b o,s.heap.get? b = some o->h'.get? b = some o)->Q (.ref s.heap.objs.size) { s with heap:=h',toks:=tk }) :
 wpAny (model prog w) A (call (.type "set") [.ref l]) Q E s:=by
 have hxs:xs.length = items.size:=by
  rw [<- ba,hi,aj]
 refine tZ (Z:=jP w s.heap.objs.size ((xs.foldl eH []).map (sI w))) hh hl (fun A' I St G s1 R eI hA W hS st k gS fin=>?_) h
 refine zr (by omega) W s.heap.objs.size hS s.heap (fun b hb=>?_) xs (fun i v hv=>?_) hr hxs (items.size - 0) 0 s1 [] (by omega) (bA _) (fun q hq=>by cases hq) hb st k ⟨#[],0,.fresh 0 0 (!w.params.followText "set-order"),gS,xN _ _ _,rfl,.inl rfl,.refl _,by show 0 * 5 < 7 * 3;decide⟩ fin
 . cases e:s.heap.get? b with
   | none=>rfl
   | some o =>
     have:=aB e
     simp only [aQ,fy,or_false] at hb
     rcases hb with z | z
     . rw [z] at this;exact absurd this (cI _)
     . rw [z,eI] at this;exact absurd this (Nat.not_lt.mpr (nz _))
 . have e:items.toList[i]? = some v:=by rw [Array.getElem?_toList];exact hv
   rw [hi,aS] at e
   obtain ⟨q,q1,q2⟩:=aL.mp e
   exact ⟨q,q1,q2.symm⟩
end
section
variable {K:PySem.W.Frag} {H:Hp} {F:Addr->Prop}
theorem mq:∀ {ds:List D} {xs:List V},aA K H F ds xs->(ds.zip xs).map (·.1) = ds/\(ds.zip xs).map (·.2) = xs/\∀ q∈ds.zip xs,Rel K H F q.1 q.2
 | [],xs,r=>by unfold aA at r;subst r;exact ⟨rfl,rfl,fun q h=>by cases h⟩
 | d::ds,xs,r=>by
   unfold aA at r
   obtain ⟨y,ys,rfl,h1,h2⟩:=r
   obtain ⟨a,b,c⟩:=mq h2
   refine ⟨by simp [a],by simp [b],fun q hq=>?_⟩
   rcases aQ.mp hq with rfl | hq
   . exact h1
   . exact c q hq
theorem oz:∀ (ps:List (D × V)),(∀ q∈ps,Rel K H F q.1 q.2)->aA K H F (ps.map (·.1)) (ps.map (·.2))
 | [],_=>aA.nil
 | q::ps,h=>aA.cons (h q ak) (oz ps fun r hr=>h r (av _ hr))
theorem vL {d:D} {v:V} (k:hok d = true) (r:Rel K H F d v):∃ a,v = .ref a:=by
 obtain ⟨_,_,x,ds,rfl⟩:=dG k
 unfold Rel at r
 obtain ⟨a,xs,rfl,_⟩:=r
 exact ⟨a,rfl⟩
theorem uQ:∀ (ps:List (D × V)),(∀ q∈ps,∃ a,q.2 = .ref a)->Vals (ps.map (·.2)) (ps.map fun q=>vv q.2)
 | [],_=>.nil
 | q::ps,h=>by
   refine .cons ?_ (uQ ps fun r hr=>h r (av _ hr))
   obtain ⟨a,e⟩:=h q ak
   show RelV q.2 (vv q.2)
   rw [e]
   rfl
end
theorem om:∀ {ps:List (D × V)} {us:List Value},(∀ q∈ps,∃ a,q.2 = .ref a)->Vals (ps.map (·.2)) us->us = ps.map fun q=>vv q.2
 | [],us,_,h=>by cases h;rfl
 | q::ps,us,hq,h=>by
   cases h with
   | cons r t =>
     obtain ⟨a,e⟩:=hq q ak
     have r:RelV q.2 _:=r
     rw [e] at r
     have r':_ = Value.ref a:=r
     rw [aI,e,r',om (fun r hr=>hq r (av _ hr)) t]
     rfl
noncomputable def CW (X:Cx) (p:Addr) (ps:List (D × V)):HO:=.ext (jP X.w p (ps.map (sI X.w)))
theorem CV {P:Program} {w:World} {H:Hp} {h:Heap} {a:Addr} {xs:List (Int × Value)} (x:jP w a xs h):fI P w H h a (.ext (jP w a xs)):=by
 refine ⟨x,?_,fun h1 h2 x k=>?_⟩
 . obtain ⟨es,ep,t,g,r⟩:=x
   exact ⟨_,g⟩
 . obtain ⟨es,ep,t,g,r⟩:=x
   exact ⟨es,ep,t,k _ g,r⟩
theorem xX {X:Cx} (hc:X.calm = true) (hu:X.A.units+200 < cLine):bT X (.type "set") (fun xs H Q=>∃ F a ds vs,xs = [.ref a]/\SqL X.K H a vs/\aA X.K H F ds vs/\ds.all hok = true/\((ds.zip vs).foldl eH []).length < 64/\∀ p,H p = none->Q (.ref p) (upd H p (CW X p ((ds.zip vs).foldl eH [])))):=by
 intro pins s σ H xs us0 Q I r h
 obtain ⟨F,a,ds,vs,rfl,hq,rl,hk,hz,q⟩:=h
 obtain ⟨u,rfl,rx⟩:=vals1 r
 cases rx
 obtain ⟨its,r',pl,_⟩:=I.list hq
 obtain ⟨p1,p2,p3⟩:=mq rl
 have hks:∀ q∈ds.zip vs,hok q.1 = true:=fun q hq=>bD.mp hk q.1 (by rw [<- p1];exact jq hq)
 have refs:∀ q∈ds.zip vs,∃ a,q.2 = .ref a:=fun q hq=>vL (hks q hq) (p3 q hq)
 rw [<- p2] at r'
 have ei:=om refs r'
 refine rF (xs:=ds.zip vs) (by omega) (I.ok.hd hc) pl.isList (by rw [ei]) (fun q hq=>⟨hks q hq,?_⟩) hz fun h' tk hS k=>?_
 . obtain ⟨b,e⟩:=refs q hq
   exact ud I q.1 q.2 _ (p3 q hq) (by rw [e];rfl) (vM (hks q hq))
 . have ok:=CV (P:=X.prog) (H:=upd H s.heap.objs.size (CW X s.heap.objs.size ((ds.zip vs).foldl eH []))) hS
   exact ⟨.ref s.heap.objs.size,_,I.laid (t':=tk) k (ay _) ok,rfl,q _ (I.hok.fresh (ay _))⟩
end PP
end
section
namespace PP
open PySem L2 PyProof.Rows PySem.W
theorem uR {ds:List D} (h:tot ds = true):(∀ a∈ds,∀ b∈ds,ltB a b = true->ltB b a = false)/\(∀ a∈ds,∀ b∈ds,ltB a b = false->ltB b a = false->eqD a b = true)/\∀ a∈ds,∀ b∈ds,∀ c∈ds,ltB b a = false->ltB c b = false->ltB c a = false:=by
 unfold tot at h
 simp only [bD,aa,bf,BP,Bool.and_eq_false_iff] at h
 refine ⟨fun a ha b hb q=>?_,fun a ha b hb q1 q2=>?_,fun a ha b hb c hc q1 q2=>?_⟩
 . rcases (h a ha b hb).1.1 with z | z
   . rw [q] at z;cases z
   . exact z
 . rcases (h a ha b hb).1.2 with (z | z) | z
   . rw [q1] at z;cases z
   . rw [q2] at z;cases z
   . exact z
 . rcases (h a ha b hb).2 c hc with (z | z) | z
   . rw [q1] at z;cases z
   . rw [q2] at z;cases z
   . exact z
theorem rm {us ds:List D} (p:us.Perm ds) (hs:sortable ds = true) (ht:tot ds = true):(dQ us).Perm ds/\(dQ us).Pairwise fun a b=>ltB b a = false:=by
 obtain ⟨_,_,hlt⟩:=(letI:Tbs:=⟨[],[],[]⟩;cQ hs)
 obtain ⟨t1,t2,t3⟩:=uR ht
 cases ds with
 | nil =>
   have:us = []:=List.perm_nil.mp p
   subst this
   exact ⟨.refl _,.nil⟩
 | cons d0 dr =>
   letI:Inhabited { d // d∈d0::dr }:=⟨⟨d0,ak⟩⟩
   have e:(us.attachWith (·∈d0::dr) fun x hx=>p.mem_iff.mp hx).map Subtype.val = us:=List.attachWith_map_subtype_val ..
   obtain ⟨ys,e1,p1,u1⟩:=zE (α:={ d // d∈d0::dr }) Subtype.val (fun a b=>ltB a.1 b.1) (fun x y=>by
    obtain ⟨k,hk⟩:=hlt x.1 x.2 y.1 y.2
    rw [hk]
    unfold ltB
    rw [hk]
    rfl) (fun a b h=>t1 a.1 a.2 b.1 b.2 h) (fun a b c h1 h2=>t3 a.1 a.2 b.1 b.2 c.1 c.2 h1 h2) (us.attachWith (·∈d0::dr) fun x hx=>p.mem_iff.mp hx)
   rw [e] at e1
   rw [e1]
   refine ⟨?_,?_⟩
   . have:=p1.map Subtype.val
     rw [e] at this
     exact this.trans p
   . exact kJ.mpr (Cv (lt:=fun (a b:{ d // d∈d0::dr })=>ltB a.1 b.1) u1)
theorem tX {us ds:List D} (p:us.Perm ds) (hs:sortable ds = true) (ht:tot ds = true) (hb:∀ d∈ds,hb d = true):dQ us = dQ ds:=by
 obtain ⟨p1,u1⟩:=rm p hs ht
 obtain ⟨p2,u2⟩:=rm (.refl ds) hs ht
 obtain ⟨_,t2,_⟩:=uR ht
 refine List.Perm.eq_of_pairwise (fun x y hx hy h1 h2=>?_) u1 u2 (p1.trans p2.symm)
 have mx:=p1.mem_iff.mp hx
 have my:=p2.mem_iff.mp hy
 exact (fb x y (hb x mx) (hb y my)).mp (t2 x mx y my h2 h1)
theorem nC {us ds:List D} (p:us.Perm ds) (hs:sortable ds = true):sortable us = true:=by
 obtain ⟨h1,h2,h3⟩:=(letI:Tbs:=⟨[],[],[]⟩;cQ hs)
 unfold sortable
 simp only [aa,decide_eq_true_eq,bD]
 refine ⟨⟨by rw [p.length_eq];exact h1,fun x hx=>?_⟩,fun x hx y hy=>?_⟩
 . have mx:=p.mem_iff.mp hx
   obtain ⟨a,b⟩:=h2 x mx
   have:us.getD 0 .non∈ds:=by
    cases us with
    | nil=>cases hx
    | cons u r=>exact p.mem_iff.mp ak
   exact ⟨by simpa using a,by rw [b,(h2 _ this).2];simp⟩
 . obtain ⟨k,hk⟩:=h3 x (p.mem_iff.mp hx) y (p.mem_iff.mp hy)
   rw [hk];rfl
variable [Tbs]
theorem qy {X:Cx} (hc:X.calm = true) (hu:X.A.units+200 < cLine):bT X (.builtin "sorted") (fun xs H Q=>∃ F a ps,xs = [.ref a]/\H a = some (CW X a ps)/\(∀ q∈ps,hok q.1 = true/\Rel X.K H F q.1 q.2)/\sortable (ps.map (·.1)) = true/\tot (ps.map (·.1)) = true /\
 ∀ p ys,H p = none->aA X.K H F (dQ (ps.map (·.1))) ys->Q (.ref p) (upd H p (.lst ys))):=by
 intro pins s σ H xs us0 Q I r h
 obtain ⟨F,a,ps,rfl,hH,hps,hs,ht,q⟩:=h
 obtain ⟨u,rfl,rx⟩:=vals1 r
 cases rx
 obtain ⟨⟨es,ep,t,g,T,hl,hp,hq,_⟩,_,_⟩:=I.hok a _ hH
 have h64:=(cQ hs).1
 rw [aj] at h64
 refine gB kind_sorted plain_sorted entry_sorted (args_sorted1 _) ?_
 unfold Builtin.«sorted»
 have pw:(es.toList.map (·.2)).Perm (ps.map fun q=>vv q.2):=by
  have:=hq.map (·.2)
  rw [kL] at this
  exact this
 refine ag (m:=checkCount "sorted" 1 1 _) (ar (ag (sO (A:=X.A.in1) (I.ok.hd hc) ⟨es,ep,t,g,fits_of T (by simp),hl,hp,pw⟩ (by rw [aj];omega) fun vs d tk h1 pv k1=>ag (yj ?_ ?_))))
 . obtain ⟨qs,pq,rq⟩:=oD pv ps (R:=fun q v=>v = vv q.2) (by
    have:∀ l:List (D × V),Paired (fun (q:D × V) (v:Value)=>v = vv q.2) l (l.map fun q=>vv q.2):=fun l=>by
     induction l with
     | nil=>exact .nil
     | cons x l ih=>exact .cons rfl ih
    exact this ps)
   have ev:vs = qs.map fun q=>vv q.2:=by
    clear pv pq
    induction rq with
    | nil=>rfl
    | cons r _ ih=>rw [aI,ih,r]
   subst ev
   have hqs:∀ q∈qs,hok q.1 = true/\Rel X.K H F q.1 q.2:=fun q hq=>hps q (pq.mem_iff.mp hq)
   have rl:=oz qs fun q hq=>(hqs q hq).2
   have vq:=uQ qs fun q hq=>vL (hqs q hq).1 (hqs q hq).2
   have rd0:=jZ I _ _ _ rl vq (qm fun x hx=>by
    obtain ⟨q,hq,rfl⟩:=aR.mp hx
    exact vM (hqs q hq).1)
   have rd:=RdL.keep k1 _ _ rd0
   have pd:(qs.map (·.1)).Perm (ps.map (·.1)):=pq.map _
   have hsq:=nC pd hs
   obtain ⟨_,hk,_⟩:=cQ hsq
   have lu:qs.length < 64:=by rw [pq.length_eq];exact h64
   have l3:(qs.map fun q=>vv q.2).length = (qs.map (·.1)).length:=by rw [aj,aj]
   have hlen:(eE (gp (qs.map (·.1))) (qs.map fun q=>vv q.2)).length = (qs.map fun q=>vv q.2).length:=by
    unfold eE
    split
    . rfl
    . rw [aj,(fh _).length_eq,fc]
   have small:∀ i∈(ans (gp (qs.map (·.1))) (kas_sort (qs.map fun q=>vv q.2).length)).toList,i < (qs.map fun q=>vv q.2).length:=fun i hi=>by simpa using (fh _).mem_iff.mp hi
   have hv:∃ ys,Vals ys (eE (gp (qs.map (·.1))) (qs.map fun q=>vv q.2))/\aA X.K H F (dQ (qs.map (·.1))) ys:=by
    unfold eE dQ
    by_cases h2:(qs.map fun q=>vv q.2).length < 2
    . rw [if_pos h2,if_pos (by omega)]
      exact ⟨_,vq,rl⟩
    . rw [if_neg h2,if_neg (by omega),<- l3]
      exact ⟨_,nj vq _ fun i hi=>by have:=small i hi;rw [aj] at this ⊢;exact this,nq rl _ fun i hi=>by rw [<- l3];exact small i hi⟩
   obtain ⟨ys,vy,ry⟩:=hv
   rw [tX pd hs ht fun d hd=>by
    obtain ⟨q,hq,rfl⟩:=aR.mp hd
    exact (dG (hps q hq).1).1] at ry
   have hL:(h1.push (seqObj "list" (qs.map fun q=>vv q.2).toArray 0)).get? h1.objs.size = some (seqObj "list" (qs.map fun q=>vv q.2).toArray 0):=aD _ rfl
   have kp':∀ {h':Heap},(∀ b o,b≠h1.objs.size->(h1.push (seqObj "list" (qs.map fun q=>vv q.2).toArray 0)).get? b = some o->h'.get? b = some o)->∀ b o,h1.get? b = some o->h'.get? b = some o:=fun kp b o e=>kp b o (aH (aB e)) (ah _ e)
   refine ag (cN (cL slot_list_sort ⟨_,hL,rfl⟩ entry_list_sort ?_ (args_list_sort _)))
   refine jD (s:={ s with heap:=h1.push (seqObj "list" (qs.map fun q=>vv q.2).toArray 0),drawn:=d,toks:=tk }) (lt:=gp (qs.map (·.1))) (κ:=if bo ((qs.map (·.1)).getD 0 .non) < 3 then oneType' else tuples' true) hL (by rw [aj];exact lu) hlen
    (fun h2 h' kp C c=>AU (s:={ s with heap:=h',drawn:=d,toks:=tk }) (RdL.keep (kp' kp) _ _ rd) hk h2 c) (fun h' kp i j hi hj C c=>EX (A:=X.A) (s:={ s with heap:=h1,drawn:=d,toks:=tk }) hu (by show X.A.units+1+1<=X.A.units+2;omega) rd l3 hsq (kp' kp) i j hi hj C c) ?_
   . refine ⟨_,rfl,ar ⟨_,rfl,?_⟩⟩
     have J:=I.call (h':=h1) (g':=s.gens) (d':=d) (t':=tk) (ch:=[]) (Un.kept k1) (I.hok.kept k1) I.bare (fun b z=>absurd z (by simp))
     obtain ⟨e,he⟩:=sortedHeap_at (out:=(eE (gp (qs.map (·.1))) (qs.map fun q=>vv q.2)).toArray) hL
     have old:∀ b o,h1.get? b = some o->(sortedHeap (h1.push (seqObj "list" (qs.map fun q=>vv q.2).toArray 0)) h1.objs.size (qs.map fun q=>vv q.2) (eE (gp (qs.map (·.1))) (qs.map fun q=>vv q.2)).toArray).get? b = some o:=fun b o e=>by
      have lb:=aB e
      rw [sortedHeap_old (aH lb) (by rw [bQ];exact bu lb)]
      exact ah _ e
     refine ⟨.ref h1.objs.size,upd H h1.objs.size (.lst ys),J.laid (t':=tk) old (ay _) ⟨?_,_,e,vy,he⟩,rfl,q _ _ (J.hok.fresh (ay _)) ry⟩
     rw [ry.length,ot,aj,bM]
     omega
 . have:=pv.length_eq
   rw [aj] at this
   rw [bM]
   omega
end PP
end
section
namespace PP
open PySem L2 PyProof.Rows
variable [Tbs]
section
variable {K:PySem.W.Frag} {cx:Cl} {P:Program} {w:World}
noncomputable def inF (cx:Cl) (tg:Tg) (ifs:Eo) (elt:E):D->Loc->Option (List D × Loc):=fun y δi=>do
 let δd <- eR δi tg y
 let (b,δe) <- evG cx ifs δd
 if b then do
  let (z,δf) <- evE cx elt δe
  return ([z],δf)
 else return ([],δe)
end
end PP
end
section
namespace PP
open PySem L2 PyProof.Rows
variable [Tbs]
section
variable {K:PySem.W.Frag} {H:Hp} {F:Addr->Prop}
end
section
variable {X:Cx} {cx:Cl}
theorem RelM.rel {K:PySem.W.Frag} {H:Hp} {F:Addr->Prop} {e:E} {d:D} {v:V} (n:(!bG e) = true) (h:RelM (bG e) K H F d v):Rel K H F d v:=da n h
theorem Rel.dct {K:PySem.W.Frag} {H:Hp} {F:Addr->Prop} {ks:List Str} {ds:List D} {v:V} (h:Rel K H F (.dct ks ds) v):∃ a vs,v = .ref a/\Rd H a (.dK (zk ks vs))/\ks.Nodup/\ks.length = ds.length/\aA K H F ds vs:=by
 unfold Rel at h
 obtain ⟨a,vs,e,h1,_,h3,h4,h5⟩:=h
 exact ⟨a,vs,e,h1,h3,h4,h5⟩
theorem DGet.rd {H:Hp} {a:Addr} {kvs:List (Key × V)} {k:Key} (e:Rd H a (.dK kvs)):L2.DGet H a (kV k) (jU kvs k):=.inl ⟨kvs,k,e,rfl,rfl⟩
end
end PP
end
section
namespace PP
open PySem L2 PyProof.Rows
variable [Tbs]
section
variable {X:Cx}
theorem xP:fillsNumberSlot (.type "int") "divmod" = pure true :=
 fillsNumberSlot_of (id:="int.__divmod__") (r:=some (.builtin "int.__rdivmod__")) (by rw [jm,fQ];kernel_rfl) (by decide +kernel) (by rw [jm,fQ];kernel_rfl)
theorem zW:Slot "int" (dunder "divmod") "int.__divmod__":=(show ("__divmod__":Str) = dunder "divmod" by kernel_rfl)▸PySem.F.slot_int_divmod
theorem DX {prog:Program} {w:World} {A:Around} {E:Value->Shared->Prop} {s:Shared} {a b:Int} {t u:Tok} {Q:Value->Shared->Prop} (hb:b≠0) (hp:Builtin.divisionGoesByPylong a b = false)
 (h:Q (.ref s.heap.objs.size) { s with heap:=s.heap.push { cls:=.type "tuple",data:=.seq #[.int (a.fdiv b) s.toks,.int (a.fmod b) (s.toks+1)] },toks:=s.toks+1+1 }) :
 wpAny (model prog w) A (call (.builtin "int.__divmod__") [.int a t,.int b u]) (fun v s'=>v≠.notImplemented/\Q v s') E s:=by
 refine cL PySem.F.slot_int_divmod (uE s a t) PySem.F.entry_int_divmod ?_ (PySem.F.args_int_divmod_2 _ _)
 have hb':(b == 0) = false:=by simpa using hb
 show wpAny _ _ (do
  if b == 0 then rule "int.divmod.zero";raiseError "ZeroDivisionError" "integer division or modulo by zero"
  Builtin.roomForPylong a b
  ret (<- newTuple [<- mkInt (a.fdiv b),<- mkInt (a.fmod b)])) _ _ s
 simp only [hb',ae,if_false,pure_bind]
 refine ag (wpAny_roomForPylong (.inl hp) ?_)
 refine ag (wpAny_mkInt (ag (wpAny_mkInt (ag (wpAny_newTuple ?_ (show 2<=sizeLine by decide))))))
 exact ar ⟨_,rfl,by simp,h⟩
theorem Bw:bT X (.builtin "divmod") (fun xs H Q=>∃ i j,xs = [.int i,.int j]/\0 < j/\j < 1073741824/\∀ p,H p = none->Q (.ref p) (upd H p (.tup [.int (i / j),.int (i % j)]))):=by
 intro pins s σ H xs us Q I r h
 obtain ⟨i,j,rfl,h1,h2,q⟩:=h
 obtain ⟨u,w',rfl,⟨t,rfl⟩,⟨t',rfl⟩⟩:=vals2 r
 refine gB (b:=Builtin.«divmod») (by decide +kernel) (by decide +kernel) (entryFor_of_tree (by kernel_rfl)) (by unfold argsOk;kernel_rfl) ?_
 unfold Builtin.«divmod»
 refine ag (m:=someArgs "divmod" 2 2 _) (ar ?_)
 show wpAny _ _ (do let v <- Builtin.Builtins.binaryNamed "divmod()" "divmod" (.int i t) (.int j t');ret v) _ _ s
 refine ag ?_
 unfold Builtin.Builtins.binaryNamed
 refine cN ?_
 have fin:EP X pins σ Q (.ref s.heap.objs.size) { s with heap:=s.heap.push { cls:=.type "tuple",data:=.seq #[.int (i.fdiv j) s.toks,.int (i.fmod j) (s.toks+1)] },toks:=s.toks+1+1 }:=by
  rw [qJ i (by omega),qI i (by omega)]
  refine ⟨.ref s.heap.objs.size,upd H s.heap.objs.size (.tup [.int (i / j),.int (i % j)]),I.laid (t':=s.toks+1+1) (fun b u e=>ah _ e) (ay _) ?_,rfl,q _ (I.hok.fresh (ay _))⟩
  exact ⟨show 2<=sizeLine by decide,[.int (i / j) s.toks,.int (i % j) (s.toks+1)],.cons ⟨_,rfl⟩ (.cons ⟨_,rfl⟩ .nil),⟨_,aD _ rfl,rfl,_,rfl⟩⟩
 have hc:=DX (prog:=X.prog) (w:=X.w) (A:=X.A.in1) (E:=X.xe) (t:=t) (u:=t') (Q:=fun v s'=>EP X pins σ Q v s') (show j≠0 by omega) (PyProof.noPylong_small (x:=i) (by omega)) fin
 have h9:=wpAny_binaryOp1_same (M:=model X.prog X.w) (A:=X.A.in1) (E:=X.xe) (s:=s) (a:=.int i t) (b:=.int j t') (T:="int") (nm:="divmod") (id:="int.__divmod__") (Q:=fun o s'=>∃ v,o = some v/\EP X pins σ Q v s') (uE s i t) (uE s j t') xP zW (fk hc (fun v s' h=>⟨h.1,v,rfl,h.2⟩) fun _ _ h=>h)
 refine ag (fk h9 (fun o s' h=>?_) fun _ _ h=>h)
 obtain ⟨v,rfl,h⟩:=h
 exact ar (ar ⟨_,rfl,h⟩)
theorem Iz:bT X (.builtin "divmod") (rB X.K Ec):=by
 refine bT.imp Bw fun xs H Q ⟨F,ds,d,fd,r,e,q⟩=>?_
 unfold Ec at e
 split at e
 . split at e
   . rename_i hb
     cases e
     obtain ⟨v,u,rfl,r1,r2⟩:=b2 r
     refine ⟨_,_,by rw [r1.int,r2.int],hb.1,hb.2,fun p hp=>q _ _ (cj hp _) ?_⟩
     unfold Rel
     exact ⟨p,_,rfl,SqT.of bt,aA.cons (cE _) (aA.cons (cE _) aA.nil)⟩
   . cases e
 . cases e
end
end PP
end
section
namespace PP
open PySem L2 PyProof.Rows
variable [Tbs]
section
variable {cx:Cl} {k:Nat}
theorem gR:∀ {es:Es},ir es = true->nN es = true
 | .nil,_=>rfl
 | .cons e es,h=>by
   have h':(!bG e && ir es) = true:=h
   rw [aa] at h'
   show ((!bG e || npS es) && nN es) = true
   rw [h'.1,gR h'.2];rfl
theorem ig {c:Ck} {env:Env} {pos:Pos}:∀ {es:Es} {ys:List Expr},gI c es ys = true->(backTo pos (starEach ys env)).any (·.1) = false
 | .nil,ys,h=>by obtain ⟨rfl,_⟩:=eW h;rfl
 | .cons e es,ys,h=>by
   obtain ⟨_,_,rfl,hh⟩:=dc h
   rw [aa] at hh
   rw [cJ (bZ hh.1)]
   show (false || (backTo pos (starEach _ env)).any (·.1)) = false
   rw [ig hh.2];rfl
theorem rH {X:Cx} {c:Ck} {sc:Scope} (C:Cok X c cx k) (h:jw c sc = true):qE X sc:=by
 unfold jw at h
 rw [aa,bD] at h
 obtain ⟨h1,h2⟩:=h
 have q:∀ p∈sc.names,p.2≠.cell/\(p.2 = .local->sc.names.lookup p.1 = some .local)/\(p.2 = .free->c.sc.names.lookup p.1 = some .cell\/c.sc.names.lookup p.1 = some .free):=fun p hp=>by
  have z:=h2 p hp
  rw [aa,aa] at z
  obtain ⟨⟨a,b⟩,d⟩:=z
  refine ⟨of_decide_eq_true a,fun e=>?_,fun e=>?_⟩
  . rw [bf] at b
    rcases b with b | b
    . simp [e] at b
    . exact of_decide_eq_true b
  . rw [bf] at d
    rcases d with d | d
    . simp [e] at d
    . split at d
      . exact .inl ‹_›
      . exact .inr ‹_›
      . cases d
 exact ⟨of_decide_eq_true h1,fun y hy=>(q y hy).1,fun y hy e=>(q y hy).2.1 e,fun x hx=>C.kc x ((q _ hx).2.2 rfl)⟩
theorem kr {X:Cx} {c:Ck} {sc:Scope} {Nc:List Str} (C:Cok X c cx k) (h:jw c sc = true) (hn:Nc.Nodup) (cl:List (Str × Addr)) (Ca:Addr) (s:Shared) (H:Hp) (fp:List Addr):Cok (cxC X sc cl Ca Nc s H fp) ⟨Nc,sc,c.fns,c.gn⟩ cx k:=by
 have S:=rH C h
 have kd:∀ x,(cxC X sc cl Ca Nc s H fp).env.kindOf x = (sc.names.lookup x).map fun k=>if (k == NameKind.free && X.env.scope.kind == .function && X.env.kindOf x == some .cell) then NameKind.cell else k:=fun x=>kq x
 refine ⟨rfl,hn,fun x hx=>?_,fun x hx=>?_,fun x hx=>?_,fun x hx=>?_,C.calm,rfl,C.room,C.fns,C.fnO,C.blt,C.glob,C.gsome,C.gds,C.pos⟩
 . have e:=kd x
   show (cxC X sc cl Ca Nc s H fp).env.kindOf x = some .local\/(cxC X sc cl Ca Nc s H fp).env.kindOf x = some .cell\/(cxC X sc cl Ca Nc s H fp).env.kindOf x = some .free
   rw [e]
   rcases hx with hx | hx | hx
   . rw [hx];exact .inl rfl
   . exact absurd rfl (S.nocell _ (PySem.mem_of_lookup hx))
   . rw [hx]
     simp only [cM]
     split
     . exact .inr (.inl rfl)
     . exact .inr (.inr rfl)
 . show (cxC X sc cl Ca Nc s H fp).env.kindOf x = some .globalImplicit
   rw [kd x]
   have hx:sc.names.lookup x = some .globalImplicit:=hx
   rw [hx]
   rfl
 . have:sc.names.lookup x = some .local:=by
    rcases hx with hx | hx
    . exact hx
    . exact absurd rfl (S.nocell _ (PySem.mem_of_lookup hx))
   have e:(cxC X sc cl Ca Nc s H fp).env.kindOf x = some .local:=by rw [kd x,this];rfl
   exact ⟨.inl e,.inr e⟩
 . rw [kd x]
   have hx:sc.names.lookup x = some .cell\/sc.names.lookup x = some .free:=hx
   rcases hx with hx | hx
   . exact absurd rfl (S.nocell _ (PySem.mem_of_lookup hx))
   . rw [hx]
     simp only [cM]
     split
     . exact .inl rfl
     . exact .inr rfl
theorem oI {c:Ck} {sc:Scope} {Nc:List Str} (h:namesOk c sc Nc = true):Nc.Nodup/\∀ i x,i < c.N.length->Nc[i]? = some x->Vis sc x->c.N[i]? = some x/\sc.names.lookup x = some .free:=by
 unfold namesOk at h
 rw [aa,bD] at h
 refine ⟨of_decide_eq_true h.1,fun i x hi e v=>?_⟩
 have z:=h.2 i (by simpa using hi)
 rw [e] at z
 dsimp only at z
 rw [bf,aa] at z
 have vb:xa sc x = true:=by
  unfold xa
  rcases v with v | v | v<;>rw [v]
 rcases z with z | ⟨z1,z2⟩
 . rw [vb] at z;cases z
 . exact ⟨of_decide_eq_true z1,of_decide_eq_true z2⟩
theorem Bt {X:Cx} {c:Ck} {Nc:List Str} {kk:Nat} {tg:Tg} {src:It} {ifs:Eo} {elt:E} {pins:List (Addr × Obj)} {s:Shared} {σ:L2.St} {H:Hp} {Q:VK} (C:Cok X c cx k) (I:Inv X pins σ H s) (n:(!bG elt) = true) (hk:Nc.length = c.N.length+kk) (hge:xh c.N.length tg = true)
 {G:Gh} {F:Addr->Prop} {δ δ':Loc} {d:D} (ok:Ok X.K G F σ H δ) (ev:evE cx (.comp kk tg src ifs elt) δ = some (d,δ'))
 (q:∀ p ys xs H1 F1 H2 F2,d = .lst ys->Step G F H F1 H1->Step G F1 H1 F2 H2->H1 p = none->G.free p->Ok X.K (G.and p) F2 σ H2 δ'->H2 p = some (.lst xs)->aA X.K H2 F2 ys xs->(np (.comp kk tg src ifs elt) = true->Sim H H2)->Q (.ref p) H2) :
 tLC (Nc.length - X.N.length) (tI X.K cx src) (gTg X.K tg) (tG X.K cx ifs) (tE X.K cx elt) σ H Q:=by
 obtain ⟨ds,δ1,ys,ei,ec,hz,rfl⟩:=Ei ev
 have ek:Nc.length - X.N.length = kk:=by rw [C.hN,hk];omega
 rw [ek]
 refine ⟨G,F,δ,ds,δ1,ok,ei,fun J H1 F1 st1 sm1 ok1 wk=>fun p hp=>?_⟩
 have hg:=ok1.free hp
 refine uv n (by rw [I.len,C.hN];exact hge) ok1 (wk _) hp ec hz fun σ' H2 F2 xs ok2 eD rl st2 sm2=>?_
 refine q p ys xs H1 F1 H2 F2 rfl st1 st2 hp hg ok2 eD rl fun z=>?_
 have z':(npI src && npO ifs && np elt) = true:=z
 rw [aa,aa] at z'
 exact (sm1 z'.1.1).trans (sm2 (by rw [z'.1.2,z'.2];rfl))
theorem Bs {X:Cx} {c:Ck} {Nc:List Str} {kk:Nat} {tg:Tg} {src:It} {ifs:Eo} {elt:E} {pins:List (Addr × Obj)} {s:Shared} {σ:L2.St} {H:Hp} {Q:VK} (C:Cok X c cx k) (I:Inv X pins σ H s) (n:(!bG elt) = true) (hk:Nc.length = c.N.length+kk) (hge:xh c.N.length tg = true)
 (h:tE X.K cx (.comp kk tg src ifs elt) σ H Q):tLC (Nc.length - X.N.length) (tI X.K cx src) (gTg X.K tg) (tG X.K cx ifs) (tE X.K cx elt) σ H Q:=by
 obtain ⟨G,F,δ,d,δ',ok,ev,post⟩:=h
 refine Bt C I n hk hge ok ev fun p ys xs H1 F1 H2 F2 e st1 st2 hp hg ok2 eD rl sm=>?_
 subst e
 have st':Step G F1 H1 (fun b=>F2 b/\b≠p) H2:=⟨st2.keep,fun b z=>st2.grow b z.1,fun b o r f e=>by
  obtain ⟨a1,a2⟩:=st2.res b o r f e
  exact ⟨⟨a1,fun w=>by rw [w,hp] at e;cases e⟩,a2⟩,st2.tb⟩
 refine post (.ref p) H2 _ (st1.trans st') sm (ok2.leave hg) (fu ?_)
 unfold Rel
 exact ⟨p,xs,rfl,.inl ⟨.inl eD,fun z=>z.2 rfl⟩,aA.less ok2.fd (fun b z=>z.1) rl⟩
theorem zI {X:Cx} {c:Ck} {sc:Scope} {Nc:List Str} {kk:Nat} {tg:Tg} {src:It} {ifs:Eo} {elt:E} {ex t it:Expr} {il:List Expr} {pos:Pos} (C:Cok X c cx k) (n:(!bG elt) = true) (hk:Nc.length = c.N.length+kk) (hge:xh c.N.length tg = true) (hs:jw c sc = true) (hn:namesOk c sc Nc = true)
 (htg:∀ cl Ca s H fp,PG (cxC X sc cl Ca Nc s H fp) t (gTg X.K tg)) (hI:PI X t it (tI X.K cx src)) (hG:∀ cl Ca s H fp,PTs (cxC X sc cl Ca Nc s H fp) il (tG X.K cx ifs)) (hE:∀ cl Ca s H fp,PE (cxC X sc cl Ca Nc s H fp) ex (tE X.K cx elt))
 (hset:∀ v,foldedSetIterable it X.env v = pure v):PE X (.ListComp ex [⟨t,it,il,0⟩] sc pos) (tE X.K cx (.comp kk tg src ifs elt)):=by
 obtain ⟨nd,hvis⟩:=oI hn
 intro pins s σ H Q I h
 refine Ak (Nc:=Nc) C.xe C.calm (rH C hs) (fun i x hi=>by rw [C.hN] at hi ⊢;exact hvis i x hi) (by rw [C.hN,hk];omega) hI htg hG hE hset pins s σ H Q I ?_
 exact Bs C I n hk hge h
theorem call_of {X:Cx} {c:Ck} {f:Nat} {es:Es} {n:Str} {p pos:Pos} {xs:List Expr} (C:Cok X c cx k) (hA:PA X xs (tEs X.K cx es)) (h:(match c.fns[f]? with
 | some (m,ps)=>decide (m = n) && eC c n && decide (ps.length = Bm es) && gI c es xs && ir es && !xs.isEmpty
 | none=>false) = true):PE X (.Call (.Name n p) xs [] pos) (tE X.K cx (.call f es)):=by
 split at h
 . rename_i m ps ef
   simp only [aa] at h
   obtain ⟨⟨⟨⟨⟨h1,h2⟩,h3⟩,h4⟩,h5⟩,h6⟩:=h
   have e:=of_decide_eq_true h1
   subst e
   obtain ⟨a,fd,hm,hk,hb,fn⟩:=C.fns f _ _ ef
   obtain ⟨g1,g2,g3⟩:=C.global h2
   cases xs with
   | nil=>simp at h6
   | cons y ys =>
     obtain ⟨_,_,_,a1,a2⟩:=gH h4
     exact zJ h5 fn C.room g1 hm hk hb hA g2 (cJ (bZ a1) _ _) (ig a2)
 . cases h
theorem IC {X:Cx} {c:Ck} {f:Blt} {es:Es} {p pos:Pos} {y:Expr} {ys:List Expr} (C:Cok X c cx k) (hg:eC c (oW f) = true) (ht:tyName f = none) (hA:PA X (y::ys) (tEs X.K cx es)) (h:gI c es (y::ys) = true):PE X (.Call (.Name (oW f) p) (y::ys) [] pos) (tE X.K cx (.blt f es)):=by
 obtain ⟨g1,g2,g3⟩:=C.global hg
 obtain ⟨e,es',rfl,h1,h2⟩:=gH h
 have he:=cJ (bZ h1) ys X.env
 have hpl:=ig (env:=X.env) (pos:=pos) h2
 cases f with
 | len=>exact fo DQ rfl (fv Iw g1 (C.blt _ (by decide +kernel)) rfl hA g3 g2 he hpl)
 | min=>exact fo minD rfl (fv (Ir C.calm) g1 (C.blt _ (by decide +kernel)) rfl hA g3 g2 he hpl)
 | max=>exact fo maxD rfl (fv (Iu C.calm) g1 (C.blt _ (by decide +kernel)) rfl hA g3 g2 he hpl)
 | toInt=>exact fo pI rfl (fP Iy g1 (C.blt _ (by decide +kernel)) rfl hA g3 g2 he hpl)
 | toStr=>exact fo pH rfl (fP Iq g1 (C.blt _ (by decide +kernel)) rfl hA g3 g2 he hpl)
 | toTup=>exact fo pG rfl (fP Ip g1 (C.blt _ (by decide +kernel)) rfl hA g3 g2 he hpl)
 | toLst=>exact fo jW rfl (fP Iv g1 (C.blt _ (by decide +kernel)) rfl hA g3 g2 he hpl)
 | dvm=>exact fo Ec rfl (fv Iz g1 (C.blt _ (by decide +kernel)) rfl hA g3 g2 he hpl)
 | sorted=>exact fo lj rfl (fv (xW C.units) g1 (C.blt _ (by decide +kernel)) rfl hA g3 g2 he hpl)
 | any=>exact fo Ep rfl (fv (IA C.calm) g1 (C.blt _ (by decide +kernel)) rfl hA g3 g2 he hpl)
 | _=>cases ht
end
end PP
end
section
namespace PP
open PySem L2 PyProof.Rows
variable [Tbs]
section
variable {K:PySem.W.Frag} {cx:Cl} {P:Program} {w:World} {k:Nat}
end
end PP
end
section
namespace PP
open PySem L2 PyProof.Rows
variable [Tbs]
section
variable {cx:Cl} {k:Nat}
end
end PP
end
section
namespace PP
open PySem L2 PyProof.Rows
variable [Tbs]
section
variable {cx:Cl} {k:Nat}
theorem CH {X:Cx} {c:Ck} {a:E} {y:Expr} {p p2 pos cp:Pos} (C:Cok X c cx k) (gg:Gl X "sorted") (gm:X.mg "sorted" = none) (gn:("sorted":Str)≠"__name__") (gd:(("sorted":Str) == ("__debug__":Str)) = false)
 (fg:Gl X "set") (fm:X.mg "set" = none) (fn:("set":Str)≠"__name__") (fd:(("set":Str) == ("__debug__":Str)) = false) (np':(!bG a) = true) (ha:PE X y (tE X.K cx a))
 (he:starEach [y] X.env = (false,eval y X.env)::starEach [] X.env):PE X (.Call (.Name "sorted" p) [.Call (.Name "set" p2) [y] [] cp] [] pos) (tE X.K cx (.ssd a)):=by
 have hS:PE X (.Call (.Name "set" p2) [y] [] cp) _:=fP (xX C.calm C.units) fg fm rfl (eS ha gQ he) fn fd he rfl
 refine PE.imp (fv (qy C.calm C.units) gg gm rfl (eS hS gQ rfl) gn gd rfl rfl) fun σ H Q h=>?_
 obtain ⟨G,F,δ,d,δ',ok,ev,post⟩:=h
 simp only [evE,ao,af] at ev
 obtain ⟨⟨x,δ1⟩,ea,ev⟩:=ev
 cases x with
 | lst ds =>
   dsimp only at ev
   split at ev
   . rename_i hs
     cases ev
     rw [aa,aa] at hs
     refine ⟨G,F,δ,_,_,ok,ea,fun v H1 F1 st sm ok1 r=>?_⟩
     obtain ⟨q,ys,rfl,h1,h2⟩:=r.b.lst
     obtain ⟨p1,p2',p3⟩:=mq h2
     have ed:((ds.zip ys).foldl eH []).map (·.1) = hW ds:=by
      rw [oS,p1]
      rfl
     have hl:((ds.zip ys).foldl eH []).length < 64:=by
      have:=(cQ hs.1.2).1
      rw [<- ed,aj] at this
      exact this
     refine ⟨F1,q,ds,ys,rfl,h1.sq,h2,hs.1.1,hl,fun D hD=>?_⟩
     have sd:=cj hD (CW X D ((ds.zip ys).foldl eH []))
     have ok2:=ok1.same' sd
     refine ⟨F1,D,(ds.zip ys).foldl eH [],rfl,bt,fun q hq=>?_,by rw [ed];exact hs.1.2,by rw [ed];exact hs.2,fun p' zs hp' rl=>?_⟩
     . rcases oQ _ _ hq with z | z
       . cases z
       . exact ⟨bD.mp hs.1.1 q.1 (by rw [<- p1];exact jq z),Rel.step ok1.fd (oo sd) _ _ (p3 q z)⟩
     . rw [ed] at rl
       have sp:=cj hp' (.lst zs)
       refine post _ _ F1 ((st.trans (Step.of_same sd)).trans (Step.of_same sp)) (fun z=>((sm z).trans (.of sd)).trans (.of sp)) (ok2.same' sp) (fu ?_)
       unfold Rel
       exact ⟨p',zs,rfl,.inl ⟨.inl bt,oG ok2.fd hp'⟩,aA.step ok2.fd (oo sp) _ _ rl⟩
   . cases ev
 | _=>cases ev
end
section
variable {cx:Cl} {δ:Loc}
end
end PP
end
section
namespace PP
open PySem PySem.Spec L2 PyProof.Rows
variable [Tbs]
end PP
end
section
namespace PP
open PySem L2 PyProof.Rows
variable [Tbs]
section
variable {K:PySem.W.Frag} {cx:Cl} {w:World}
end
section
variable {cx:Cl} {δ:Loc}
end
end PP
end
section
namespace PP
open PySem L2 PyProof.Rows
variable [Tbs]
section
variable {cx:Cl} {k:Nat}
theorem qW {c:Ck} {tg:Tg} {ts:List Str} {kk:Nat} (h:ts.length = kk):(oJ ts c.N++ts).length = c.N.length+kk:=by
 unfold oJ
 rw [az,aj,h]
theorem qw {c:Ck} {t:It} {x:Expr} (h:ckI c t x = true) (env:Env) (v:Value):foldedSetIterable x env v = pure v:=by
 cases t with
 | rng e=>obtain ⟨_,_,_,_,rfl,_⟩:=eV h;rfl
 | rng2 a b=>obtain ⟨_,_,_,_,rfl,_⟩:=eV h;rfl
 | sq e =>
   have h:(ckE c e x && !bG e) = true:=h
   rw [aa] at h
   exact Be (bZ h.1) env v
theorem fL {X:Cx} {c:Ck} {f:Blt} {es:Es} {x:Expr} (C:Cok X c cx k) (h:ckE c (.blt f es) x = true) (hE:∀ e y,es = .cons e .nil->ckE c e y = true->PE X y (tE X.K cx e)) (hA:∀ xs,gI c es xs = true->nN es = true->PA X xs (tEs X.K cx es)) :
 PE X x (tE X.K cx (.blt f es))/\∀ whole,isTrue x X.env whole = (do let v <- whole;standAt x.pos;holding [v] (truthy v)):=by
 obtain ⟨n,np,xs,p,rfl,hh⟩:=eV h
 refine ⟨?_,fun _=>rfl⟩
 simp only [aa] at hh
 obtain ⟨⟨h1,h2⟩,h3⟩:=hh
 have e:=of_decide_eq_true h1
 subst e
 cases hT:tyName f with
 | some T =>
   rw [hT] at h3
   obtain ⟨y,w,rfl,h4⟩:=kf h3
   obtain ⟨t,tp,rfl,h5⟩:=bL h4
   simp only [aa] at h5
   obtain ⟨⟨⟨a1,a2⟩,a3⟩,a4⟩:=h5
   have et:=of_decide_eq_true a1
   cases es with
   | nil=>exact absurd (eW a3).1 (by simp)
   | cons e es' =>
     obtain ⟨_,_,q0,a3'⟩:=dc a3
     cases q0
     rw [aa] at a3'
     cases es' with
     | cons _ _=>obtain ⟨_,_,q0,_⟩:=dc a3'.2;cases q0
     | nil =>
       have q:=hE e y rfl a3'.1
       obtain ⟨t1,t2,t3⟩:=C.global a2
       have tb:t∈jM:=by
        subst et
        cases f<;>simp [tyName] at hT<;>subst hT<;>decide +kernel
       have hs:starEach [y,.Name t tp] X.env = [(false,eval y X.env),(false,eval (.Name t tp) X.env)]:=by rw [cJ (bZ a3'.1)];rfl
       have nm:oW f = ("isinstance":Str):=by cases f<;>simp [tyName] at hT<;>rfl
       rw [nm] at h2 ⊢
       obtain ⟨g1,_,_⟩:=C.global h2
       exact Gr hT et g1 (C.blt _ (by decide +kernel)) t1 (C.blt _ tb) q hs
 | none =>
   rw [hT] at h3
   simp only [aa] at h3
   obtain ⟨⟨b1,b2⟩,b3⟩:=h3
   cases xs with
   | nil=>simp at b1
   | cons y ys=>exact IC C h2 hT (hA _ b2 b3) b2
theorem Bx {X:Cx} {c:Ck} {f:Nat} {es:Es} {x:Expr} (C:Cok X c cx k) (h:ckE c (.call f es) x = true) (hA:∀ xs,gI c es xs = true->nN es = true->PA X xs (tEs X.K cx es)) :
 PE X x (tE X.K cx (.call f es))/\∀ whole,isTrue x X.env whole = (do let v <- whole;standAt x.pos;holding [v] (truthy v)):=by
 obtain ⟨n,np,xs,p,rfl,hh⟩:=eV h
 refine ⟨?_,fun _=>rfl⟩
 have h':=hh
 split at h'
 . simp only [aa] at h'
   exact call_of C (hA _ h'.1.1.2 (gR h'.1.2)) hh
 . cases h'
theorem noT {X:Cx} {e:E} {x:Expr} (h:∀ δ,evT cx e δ = none):PT X x (tT X.K cx e):=fun pins s σ H Q I q=>by
 obtain ⟨G,F,δ,b,δ',ok,ev,post⟩:=q
 rw [h] at ev
 cases ev
theorem noE {X:Cx} {e:E} {x:Expr} (h:∀ δ,evE cx e δ = none):PE X x (tE X.K cx e):=fun pins s σ H Q I q=>by
 obtain ⟨G,F,δ,b,δ',ok,ev,post⟩:=q
 rw [h] at ev
 cases ev
mutual
theorem dt:∀ (e:E) (X:Cx) (c:Ck) (x:Expr),Cok X c cx k->ckE c e x = true->PE X x (tE X.K cx e)
 | .var i,X,c,x,C,h=>by
   obtain ⟨_,_,rfl,hq1⟩:=bL h
   replace h:=hq1
   . obtain ⟨n1,n2,n3,n4⟩:=C.name h
     exact CB n1 n2 n3 n4
 | .pk i,X,c,x,C,h=>by
   obtain ⟨_,_,rfl,hq1⟩:=bL h
   replace h:=hq1
   . obtain ⟨n1,n2,n3,n4⟩:=C.name h
     exact Gn n1 n2 n3 n4
 | .glob g,X,c,x,C,h=>by
   obtain ⟨_,_,rfl,hq1⟩:=bL h
   replace h:=hq1
   . rw [aa] at h
     have e:=of_decide_eq_true h.1
     obtain ⟨g1,g2,g3⟩:=C.global h.2
     obtain ⟨d,hd⟩:=C.gsome g _ e
     obtain ⟨u,v,hm,r,hr⟩:=C.glob g _ d e hd
     exact zH g1 hm r (fun d' hd'=>by rw [hd] at hd';cases hd';exact hr) g2
 | .int i,X,c,x,C,h=>by
   obtain ⟨_,_,_,rfl,hq1⟩:=mB h
   obtain ⟨_,rfl,hq2⟩:=HA hq1
   replace h:=hq2
   . have e:=of_decide_eq_true h;subst e;exact CP
 | .bl i,X,c,x,C,h=>by
   obtain ⟨_,_,_,rfl,hq1⟩:=mB h
   obtain ⟨_,rfl,hq2⟩:=HC hq1
   replace h:=hq2
   . have e:=of_decide_eq_true h;subst e;exact Gu
 | .non,X,c,x,C,h=>by
   obtain ⟨_,_,_,rfl,hq1⟩:=mB h
   replace h:=hq1
   have e:=AY h
   subst e
   exact CK
 | .str i,X,c,x,C,h=>by
   obtain ⟨_,_,_,rfl,hq1⟩:=mB h
   obtain ⟨_,rfl,hq2⟩:=Hw hq1
   replace h:=hq2
   . have e:=of_decide_eq_true h;subst e;exact CG
 | .bin op a b,X,c,x,C,h=>by
   obtain ⟨_,_,_,_,rfl,hq1⟩:=sh h
   replace h:=hq1
   . simp only [aa] at h
     obtain ⟨⟨⟨h1,h2⟩,h3⟩,h4⟩:=h
     exact CS h1 h4 (dt a X c _ C h2) (dt b X c _ C h3)
 | .cmp op a b,X,c,x,C,h=>by
   obtain ⟨_,_,_,_,rfl,hq1⟩:=mz h
   obtain ⟨_,rfl,hq2⟩:=dM hq1
   obtain ⟨_,rfl,hq3⟩:=dM hq2
   replace h:=hq3
   . simp only [aa] at h
     obtain ⟨⟨⟨h1,h2⟩,h3⟩,h4⟩:=h
     exact CQ C.units h1 h4 (dt a X c _ C h2) (dt b X c _ C h3) (oP (bZ h3) _)
 | .and a b,X,c,x,C,h=>by
   obtain ⟨o,_,p,rfl,hq1⟩:=jC h
   obtain ⟨y,r,rfl,hq2⟩:=dc hq1
   obtain ⟨z,r2,rfl,hq3⟩:=dc hq2
   simp only [aa] at hq3
   obtain ⟨⟨⟨⟨h0,h1⟩,h2⟩,h3⟩,h4⟩:=hq3
   cases o<;>first | (cases h0;done) | skip
   cases r2 with
   | nil=>exact snd_and h3 h4 (dt a X c _ C h1) (Aj (dt b X c _ C h2))
   | cons w r=>exact snd_and h3 h4 (dt a X c _ C h1) (dt b X c _ C h2)
 | .or a b,X,c,x,C,h=>by
   obtain ⟨o,_,p,rfl,hq1⟩:=jC h
   obtain ⟨y,r,rfl,hq2⟩:=dc hq1
   obtain ⟨z,r2,rfl,hq3⟩:=dc hq2
   simp only [aa] at hq3
   obtain ⟨⟨⟨⟨h0,h1⟩,h2⟩,h3⟩,h4⟩:=hq3
   cases o<;>first | (cases h0;done) | skip
   cases r2 with
   | nil=>exact zG h3 h4 (dt a X c _ C h1) (Aj (dt b X c _ C h2))
   | cons w r=>exact zG h3 h4 (dt a X c _ C h1) (dt b X c _ C h2)
 | .not a,X,c,x,C,h=>by
   obtain ⟨o,_,_,rfl,hh⟩:=ly h
   simp only [aa] at hh
   obtain rfl:=sA hh.1.1
   exact CJ hh.2 (dt a X c _ C hh.1.2)
 | .neg a,X,c,x,C,h=>by
   obtain ⟨o,_,_,rfl,hh⟩:=ly h
   simp only [aa] at hh
   obtain rfl:=AZ hh.1.1
   exact CM hh.2 (dt a X c _ C hh.1.2)
 | .ssd a,X,c,x,C,h=>by
   obtain ⟨_,_,_,_,rfl,hq1⟩:=eV h
   obtain ⟨_,rfl,hq2⟩:=dM hq1
   obtain ⟨_,_,_,_,rfl,hq3⟩:=eV hq2
   obtain ⟨_,rfl,hq4⟩:=dM hq3
   replace h:=hq4
   . simp only [aa] at h
     obtain ⟨⟨⟨⟨⟨h1,h2⟩,h3⟩,h4⟩,h5⟩,h6⟩:=h
     have e1:=of_decide_eq_true h1
     have e2:=of_decide_eq_true h2
     subst e1 e2
     obtain ⟨g1,g2,g3⟩:=C.global h3
     obtain ⟨f1,f2,f3⟩:=C.global h4
     exact CH C g1 (C.blt _ (by decide +kernel)) g3 g2 f1 (C.blt _ (by decide +kernel)) f3 f2 h6 (dt a X c _ C h5) (cJ (bZ h5) _ _)
 | .ite t a b,X,c,x,C,h=>by
   obtain ⟨_,_,_,_,rfl,hq1⟩:=vt h
   replace h:=hq1
   . simp only [aa] at h
     obtain ⟨⟨⟨⟨h1,h2⟩,h3⟩,h4⟩,h5⟩:=h
     exact CO h4 h5 (jX t X c _ C h1) (dt a X c _ C h2) (dt b X c _ C h3)
 | .tup es,X,c,x,C,h=>by
   obtain ⟨_,_,_,rfl,hq1⟩:=eU h
   replace h:=hq1
   . rw [aa] at h
     exact CD h.2 (eQ es X c _ C h.1 (gR h.2))
 | .lst es,X,c,x,C,h=>by
   obtain ⟨_,_,rfl,hq1⟩:=ik h
   replace h:=hq1
   . rw [aa] at h
     exact CN h.2 (eQ es X c _ C h.1 (gR h.2))
 | .ix a b,X,c,x,C,h=>by
   obtain ⟨_,_,_,rfl,hq1⟩:=ij h
   replace h:=hq1
   . simp only [aa] at h
     obtain ⟨⟨⟨h1,h2⟩,h3⟩,h4⟩:=h
     exact Gp h3 (dt a X c _ C h1) (dt b X c _ C h2) (vN (bZ h2))
 | .sl a lo hi,X,c,x,C,h=>by
   obtain ⟨_,_,_,rfl,hh⟩:=ij h
   obtain ⟨_,_,o,_,rfl,h9⟩:=vm hh
   simp only [aa] at h9
   obtain ⟨h0,⟨⟨h1,h2⟩,h3⟩,h4⟩:=h9
   obtain rfl:=cX.mp h0
   exact Gm (by simpa using h4) (dt a X c _ C h1) (CT lo X c _ C h2) (CT hi X c _ C h3)
 | .call f es,X,c,x,C,h=>(Bx C h fun xs h1 h2=>eQ es X c xs C h1 h2).1
 | .blt f .nil,X,c,x,C,h=>(fL C h (fun e y z=>by cases z) fun xs h1 h2=>eQ .nil X c xs C h1 h2).1
 | .blt f (.cons e .nil),X,c,x,C,h=>(fL C h (fun e' y z h1=>by cases z;exact dt e X c y C h1) fun xs h1 h2=>eQ (.cons e .nil) X c xs C h1 h2).1
 | .blt f (.cons e (.cons e2 es)),X,c,x,C,h=>(fL C h (fun e' y z=>by cases z) fun xs h1 h2=>eQ (.cons e (.cons e2 es)) X c xs C h1 h2).1
 | .bad,X,c,x,C,h=>noE fun δ=>by rw [evE]
 | .comp kk tg src ifs elt,X,c,x,C,h=>by
   obtain ⟨_,_,_,_,rfl,hq1⟩:=vp h
   obtain ⟨_,rfl,hq2⟩:=dM hq1
   obtain ⟨_,_,_,rfl,hq3⟩:=HB hq2
   replace h:=hq3
   . split at h
     . rename_i ts ht
       simp only [aa] at h
       obtain ⟨⟨⟨⟨⟨⟨⟨⟨h1,h2⟩,h3⟩,h4⟩,h5⟩,h6⟩,h7⟩,h8⟩,h9⟩:=h
       have nd:=(oI h4).1
       exact zI C h9 (qW (tg:=tg) (of_decide_eq_true h1)) h2 h3 h4 (fun cl Ca s H fp=>tY (kr C h3 nd cl Ca s H fp) h5) (Gv src X c _ _ C h6)
        (fun cl Ca s H fp=>KS ifs _ _ _ (kr C h3 nd cl Ca s H fp) h7) (fun cl Ca s H fp=>dt elt _ _ _ (kr C h3 nd cl Ca s H fp) h8) (fun v=>qw h6 _ v)
     . cases h
theorem jX:∀ (e:E) (X:Cx) (c:Ck) (x:Expr),Cok X c cx k->ckE c e x = true->PT X x (tT X.K cx e)
 | .var i,X,c,x,C,h=>by
   obtain ⟨_,_,rfl,hq1⟩:=bL h
   replace h:=hq1
   . obtain ⟨n1,n2,n3,n4⟩:=C.name h
     exact rp (.inl rfl) n1 n2 n3 n4
 | .pk i,X,c,x,C,h=>by
   obtain ⟨_,_,rfl,hq1⟩:=bL h
   replace h:=hq1
   . obtain ⟨n1,n2,n3,n4⟩:=C.name h
     exact rp (.inr rfl) n1 n2 n3 n4
 | .cmp op a b,X,c,x,C,h=>by
   obtain ⟨_,_,_,_,rfl,hq1⟩:=mz h
   obtain ⟨_,rfl,hq2⟩:=dM hq1
   obtain ⟨_,rfl,hq3⟩:=dM hq2
   replace h:=hq3
   . simp only [aa] at h
     obtain ⟨⟨⟨h1,h2⟩,h3⟩,h4⟩:=h
     exact zL C.units h1 h4 (dt a X c _ C h2) (dt b X c _ C h3) (oP (bZ h3) _)
 | .and a b,X,c,x,C,h=>by
   obtain ⟨o,_,p,rfl,hq1⟩:=jC h
   obtain ⟨y,r,rfl,hq2⟩:=dc hq1
   obtain ⟨z,r2,rfl,hq3⟩:=dc hq2
   simp only [aa] at hq3
   obtain ⟨⟨⟨⟨h0,h1⟩,h2⟩,h3⟩,h4⟩:=hq3
   cases o<;>first | (cases h0;done) | skip
   cases r2 with
   | nil=>exact rz (jX a X c _ C h1) (Dr (jX b X c _ C h2))
   | cons w r=>exact rz (jX a X c _ C h1) (PT.pw (jX b X c _ C h2))
 | .or a b,X,c,x,C,h=>by
   obtain ⟨o,_,p,rfl,hq1⟩:=jC h
   obtain ⟨y,r,rfl,hq2⟩:=dc hq1
   obtain ⟨z,r2,rfl,hq3⟩:=dc hq2
   simp only [aa] at hq3
   obtain ⟨⟨⟨⟨h0,h1⟩,h2⟩,h3⟩,h4⟩:=hq3
   cases o<;>first | (cases h0;done) | skip
   cases r2 with
   | nil=>exact uW (jX a X c _ C h1) (GS (jX b X c _ C h2))
   | cons w r=>exact uW (jX a X c _ C h1) (PT.pw (jX b X c _ C h2))
 | .not a,X,c,x,C,h=>by
   obtain ⟨o,_,_,rfl,hh⟩:=ly h
   simp only [aa] at hh
   obtain rfl:=sA hh.1.1
   exact zK (jX a X c _ C hh.1.2)
 | .call f es,X,c,x,C,h=>ll (es:=es) (f:=cx.call f) (Bx C h fun xs h1 h2=>eQ es X c xs C h1 h2).1 (Bx C h fun xs h1 h2=>eQ es X c xs C h1 h2).2 rfl (fun δ=>by rw [evE]) fun δ=>by rw [evT]
 | .blt f .nil,X,c,x,C,h=>ll (es:=.nil) (f:=hX f) (fL C h (fun e y z=>by cases z) fun xs h1 h2=>eQ .nil X c xs C h1 h2).1 (fL C h (fun e y z=>by cases z) fun xs h1 h2=>eQ .nil X c xs C h1 h2).2 rfl (fun δ=>by rw [evE]) fun δ=>by rw [evT]
 | .blt f (.cons e .nil),X,c,x,C,h=>ll (es:=.cons e .nil) (f:=hX f) (fL C h (fun e' y z h1=>by cases z;exact dt e X c y C h1) fun xs h1 h2=>eQ (.cons e .nil) X c xs C h1 h2).1 (fL C h (fun e' y z h1=>by cases z;exact dt e X c y C h1) fun xs h1 h2=>eQ (.cons e .nil) X c xs C h1 h2).2 rfl (fun δ=>by rw [evE]) fun δ=>by rw [evT]
 | .blt f (.cons e (.cons e2 es)),X,c,x,C,h=>ll (es:=.cons e (.cons e2 es)) (f:=hX f) (fL C h (fun e' y z=>by cases z) fun xs h1 h2=>eQ (.cons e (.cons e2 es)) X c xs C h1 h2).1 (fL C h (fun e' y z=>by cases z) fun xs h1 h2=>eQ (.cons e (.cons e2 es)) X c xs C h1 h2).2 rfl (fun δ=>by rw [evE]) fun δ=>by rw [evT]
 | .glob _,X,c,x,C,h=>noT fun δ=>by rw [evT]<;>intros<;>simp_all
 | .int _,X,c,x,C,h=>noT fun δ=>by rw [evT]<;>intros<;>simp_all
 | .bl _,X,c,x,C,h=>noT fun δ=>by rw [evT]<;>intros<;>simp_all
 | .non,X,c,x,C,h=>noT fun δ=>by rw [evT]<;>intros<;>simp_all
 | .str _,X,c,x,C,h=>noT fun δ=>by rw [evT]<;>intros<;>simp_all
 | .neg _,X,c,x,C,h=>noT fun δ=>by rw [evT]<;>intros<;>simp_all
 | .ssd _,X,c,x,C,h=>noT fun δ=>by rw [evT]<;>intros<;>simp_all
 | .bin ..,X,c,x,C,h=>noT fun δ=>by rw [evT]<;>intros<;>simp_all
 | .ite ..,X,c,x,C,h=>noT fun δ=>by rw [evT]<;>intros<;>simp_all
 | .tup _,X,c,x,C,h=>noT fun δ=>by rw [evT]<;>intros<;>simp_all
 | .lst _,X,c,x,C,h=>noT fun δ=>by rw [evT]<;>intros<;>simp_all
 | .ix ..,X,c,x,C,h=>noT fun δ=>by rw [evT]<;>intros<;>simp_all
 | .sl ..,X,c,x,C,h=>noT fun δ=>by rw [evT]<;>intros<;>simp_all
 | .bad,X,c,x,C,h=>noT fun δ=>by rw [evT]<;>intros<;>simp_all
 | .comp ..,X,c,x,C,h=>noT fun δ=>by rw [evT]<;>intros<;>simp_all
theorem eQ:∀ (es:Es) (X:Cx) (c:Ck) (xs:List Expr),Cok X c cx k->gI c es xs = true->nN es = true->PA X xs (tEs X.K cx es)
 | .nil,X,c,xs,C,h,_=>by
   obtain ⟨rfl,hq1⟩:=eW h
   replace h:=hq1
   . exact pM
 | .cons e es,X,c,xs,C,h,ho=>by
   obtain ⟨_,_,rfl,hq1⟩:=dc h
   replace h:=hq1
   . rw [aa] at h
     have ho':((!bG e || npS es) && nN es) = true:=ho
     rw [aa] at ho'
     exact lX ho'.1 (dt e X c _ C h.1) (eQ es X c _ C h.2 ho'.2) (cJ (bZ h.1) _ _)
theorem CT:∀ (o:Eo) (X:Cx) (c:Ck) (l:Option Expr),Cok X c cx k->ckO c o l = true->PO X l (tO X.K cx o)
 | .no,X,c,l,C,h=>by
   obtain rfl:=cX.mp h
   exact EC (fun e z=>by cases z) fun _=>rfl
 | .yes e,X,c,l,C,h=>by
   obtain ⟨_,rfl,hq1⟩:=Aq h
   replace h:=hq1
   . rw [aa] at h
     have q:=dt e X c _ C h.1
     exact EC (fun e' z=>by cases z;exact ⟨_,rfl,h.2,q⟩) fun z=>by cases z
theorem KS:∀ (o:Eo) (X:Cx) (c:Ck) (l:List Expr),Cok X c cx k->ckG c o l = true->PTs X l (tG X.K cx o)
 | .no,X,c,l,C,h=>by
   obtain ⟨rfl,hq1⟩:=eW h
   replace h:=hq1
   . intro pins s σ H Q I q
     obtain ⟨G,F,δ,b,δ',ok,ev,post⟩:=q
     simp only [evG] at ev
     cases ev
     exact Du pins s σ H Q I (post H F Step.refl (fun _=>Sim.refl H) ok)
 | .yes e,X,c,l,C,h=>by
   obtain ⟨_,rfl,hq1⟩:=dM h
   replace h:=hq1
   . have q:=Dt (jX e X c _ C h)
     intro pins s σ H Q I z
     obtain ⟨G,F,δ,b,δ',ok,ev,post⟩:=z
     simp only [evG] at ev
     exact q pins s σ H Q I ⟨G,F,δ,b,δ',ok,ev,post⟩
theorem Gv:∀ (t:It) (X:Cx) (c:Ck) (x tg:Expr),Cok X c cx k->ckI c t x = true->PI X tg x (tI X.K cx t)
 | .rng e,X,c,x,tg,C,h=>by
   obtain ⟨_,_,_,_,rfl,hq1⟩:=eV h
   obtain ⟨_,rfl,hq2⟩:=dM hq1
   replace h:=hq2
   . simp only [aa] at h
     obtain ⟨⟨⟨h1,h2⟩,h3⟩,h4⟩:=h
     have z:=of_decide_eq_true h1
     subst z
     exact CI h4 (C.global h2).1 (C.blt _ (by decide +kernel)) (dt e X c _ C h3) (cJ (bZ h3) _ _)
 | .rng2 a b,X,c,x,tg,C,h=>by
   obtain ⟨_,_,_,_,rfl,hq1⟩:=eV h
   obtain ⟨_,_,rfl,hq2⟩:=kf hq1
   replace h:=hq2
   . simp only [aa] at h
     obtain ⟨⟨⟨⟨⟨h1,h2⟩,h3⟩,h4⟩,h5⟩,h6⟩:=h
     have z:=of_decide_eq_true h1
     subst z
     exact zF h5 h6 (C.global h2).1 (C.blt _ (by decide +kernel)) (dt a X c _ C h3) (dt b X c _ C h4) (by rw [cJ (bZ h3),cJ (bZ h4)];rfl) (by rw [cJ (bZ h4)];rfl)
 | .sq e,X,c,x,tg,C,h=>by
   have h:(ckE c e x && !bG e) = true:=h
   rw [aa] at h
   exact Gk h.2 (dt e X c x C h.1)
end
end
end PP
end
section
namespace PP
open PySem L2 PyProof.Rows
variable [Tbs]
noncomputable def wg (K:PySem.W.Frag) (G:Gh) (F:Addr->Prop) (H:Hp) (o:Out) (E:Ends):Prop:=match o with
 | .nx δ'=>∀ σ' H' F',Step G F H F' H'->Ok K G F' σ' H' δ'->E.nx σ' H'
 | .rt d δ'=>∀ v σ' H' F',Step G F H F' H'->Ok K G F' σ' H' δ'->Rel K H' F' d v->E.rt v H'
 | .bk δ'=>∀ σ' H' F',Step G F H F' H'->Ok K G F' σ' H' δ'->E.bk σ' H'
 | .ct δ'=>∀ σ' H' F',Step G F H F' H'->Ok K G F' σ' H' δ'->E.ct σ' H'
 | .ro d δ'=>∀ a u σ' H' F',Step G F H F' H'->Ok K G F' σ' H' δ'->F' a->G.free a->H' a = some u->dN K H' F' d u->E.rt (.ref a) H'
noncomputable def tS (K:PySem.W.Frag) (ev:Loc->Option Out):TS:=fun E σ H=>∃ G F δ o,Ok K G F σ H δ/\ev δ = some o/\wg K G F H o E
theorem wg.step {K:PySem.W.Frag} {G:Gh} {F F1:Addr->Prop} {H H1:Hp} {o:Out} {E:Ends} (st:Step G F H F1 H1) (h:wg K G F H o E):wg K G F1 H1 o E:=by
 cases o with
 | nx δ=>exact fun σ' H' F' s k=>h σ' H' F' (st.trans s) k
 | rt d δ=>exact fun v σ' H' F' s k r=>h v σ' H' F' (st.trans s) k r
 | bk δ=>exact fun σ' H' F' s k=>h σ' H' F' (st.trans s) k
 | ct δ=>exact fun σ' H' F' s k=>h σ' H' F' (st.trans s) k
 | ro ds δ=>exact fun a xs σ' H' F' s k=>h a xs σ' H' F' (st.trans s) k
theorem zD {env:Env} {x z:Str} {px pz pt pt2:Pos} {kt k2} {a b:Expr} (hB:env.blockKind = .function) (hx:env.scope.names.lookup x = some .local) (hz:env.scope.names.lookup z = some .local) (hn:x≠z) (hl:px.line = pz.line) (ha:dW a = true) (hb:dW b = true) (hf:(foldedForSure 8 a && foldedForSure 8 b) = false) (hc:(constantsAlone 8 a && constantsAlone 8 b) = false) :
 swappedStores [.Tuple [.Name x px,.Name z pz] kt pt] (.Tuple [a,b] k2 pt2) env = pure (some [x,z]):=by
 have sa:∀ a:Expr,dW a = true->(match a with | .Starred .. => true | _=>false) = false:=fun a h=>by
  cases a<;>first | rfl | (exact absurd h ai)
 have k1:env.kindOf x = some .local:=hx
 have k2:env.kindOf z = some .local:=hz
 have e1:((env.blockKind != .function):Bool) = false:=by rw [hB];rfl
 have s1:=sa a ha
 have s2:=sa b hb
 have l1:(pz.line == px.line) = true:=by rw [hl];exact beq_self_eq_true _
 have n1:(z == x) = false:=by rw [beq_eq_false_iff_ne];exact hn.symm
 have d1:([x,z].eraseDups.length != [x,z].length) = false:=by
  rw [yu];simp [n1,yu]
 unfold swappedStores
 simp only [aw,aF,eF,List.any_nil,e1,s1,s2,List.head?_cons,cM,yx,fW,List.filterMap_nil,k1,k2,Expr.pos,l1,beq_self_eq_true,bq,ite_true,d1,dH,ib,gM,hf,hc,Bool.or_false,Bool.or_self,ff,cH,bne_self_eq_false,↓reduceIte,ae,pure_bind]
 refine (if_neg ?_).trans (if_neg ?_)
 . exact ne_true_of_eq_false (Bool.or_eq_false_iff.mpr ⟨s1,s2⟩)
 . rw [qL]
   exact ne_true_of_eq_false d1
section
variable {X:Cx} {c:Ck} {cx:Cl} {k:Nat}
theorem PS.imp {s:Stmt} {t t':TS} (h:PS X s t) (w:∀ E σ H,t' E σ H->t E σ H):PS X s t':=fun pins s σ H E I q=>h pins s σ H E I (w E σ H q)
theorem PSs.imp {s:List Stmt} {t t':TS} (h:PSs X s t) (w:∀ E σ H,t' E σ H->t E σ H):PSs X s t':=fun pins s σ H E I q=>h pins s σ H E I (w E σ H q)
theorem zO:PSs X [] (tS X.K (dO cx .nil)):=PSs.imp vg fun E σ H ⟨G,F,δ,o,ok,ev,post⟩=>by
 simp only [dO] at ev
 cases ev
 exact post σ H F Step.refl ok
theorem xt {s:S} {ss:Ss} {y:Stmt} {ys:List Stmt} (h1:PS X y (tS X.K (evS cx s))) (h2:PSs X ys (tS X.K (dO cx ss))):PSs X (y::ys) (tS X.K (dO cx (.cons s ss))):=PSs.imp (jA h1 h2) fun E σ H ⟨G,F,δ,o,ok,ev,post⟩=>by
 simp only [dO] at ev
 cases e:evS cx s δ with
 | none=>rw [e] at ev;cases ev
 | some o1 =>
   rw [e] at ev
   cases o1 with
   | nx δ1=>exact ⟨G,F,δ,.nx δ1,ok,e,fun σ' H' F' st ok'=>⟨G,F',δ1,o,ok',ev,post.step st⟩⟩
   | rt d δ1=>cases ev;exact ⟨G,F,δ,_,ok,e,post⟩
   | bk δ1=>cases ev;exact ⟨G,F,δ,_,ok,e,post⟩
   | ct δ1=>cases ev;exact ⟨G,F,δ,_,ok,e,post⟩
   | ro d δ1=>cases ev;exact ⟨G,F,δ,_,ok,e,post⟩
theorem BB {tg:Tg} {e:E} {δ:Loc} {o:Out} (ev:evS cx (.asg tg e) δ = some o):∃ d δ1 δ2,evE cx e δ = some (d,δ1)/\eR δ1 tg d = some δ2/\o = .nx δ2:=by
 simp only [evS,ao,af] at ev
 obtain ⟨⟨d,δ1⟩,e1,δ2,e2,e3⟩:=ev
 cases e3
 exact ⟨d,δ1,δ2,e1,e2,rfl⟩
theorem IE {tg:Tg} {e:E} (n:(!bG e) = true) {E:Ends} {σ:L2.St} {H:Hp} (h:tS X.K (evS cx (.asg tg e)) E σ H):Gf (tE X.K cx e) (gTg X.K tg) E σ H:=by
 obtain ⟨G,F,δ,o,ok,ev,post⟩:=h
 obtain ⟨d,δ1,δ2,e1,e2,rfl⟩:=BB ev
 exact ⟨G,F,δ,d,δ1,ok,e1,fun v H1 F1 st sm ok1 r=>pJ ok1 (da n r) e2 fun σ' ok2 _=>post σ' H1 F1 st ok2⟩
theorem zU (C:Cok X c cx k) {tg:Tg} {e:E} {t y:Expr} {pos:Pos} (hm:(isNm t || !JS y) = true) (h:uA c tg t = true) (hy:ckE c e y = true) (n:(!bG e) = true) (nc:(!fj y) = true) (he:PE X y (tE X.K cx e)):PS X (.Assign [t] y pos) (tS X.K (evS cx (.asg tg e))):=by
 have hh:=bZ hy
 have nc':fj y = false:=by simpa using nc
 have hs:swapsWithSole [t] y pos.line X.env = pure false:=gX hh nc' _ _ _
 have hw:swappedStores [t] y X.env = pure none:=by
  rcases qV h with ⟨_,_,rfl⟩ | ⟨_,_,_,rfl⟩
  . cases y<;>first | rfl | (exact absurd hh ai)
  . cases y<;>first | rfl | (exact absurd hm ai) | (exact absurd hh ai)
 have h1:(assignEach [t] X.env).map (·.2) = [assign t X.env]:=by
  rcases qV h with ⟨_,_,rfl⟩ | ⟨_,_,_,rfl⟩<;>rfl
 exact PS.imp (GY he (tY C h) hs hw h1) fun E σ H h=>IE n h
theorem FY {α β:Type} {i j:α} {ds:List β} (h:[i,j].length = ds.length):∃ a b,ds = [a,b]:=by
 cases ds with
 | nil=>cases h
 | cons a ds =>
   cases ds with
   | nil=>cases h
   | cons b ds =>
     cases ds with
     | nil=>exact ⟨a,b,rfl⟩
     | cons c ds=>cases h
theorem zN (C:Cok X c cx k) (hS:X.env.scope = c.sc) (hB:X.env.blockKind = .function) {i j:Nat} {es:Es} {t y:Expr} {pos:Pos} (h:JB c i j es t y = true) (hA:∀ a b,gI c es [a,b] = true->ir es = true->PA X [a,b] (tEs X.K cx es)):PS X (.Assign [t] y pos) (tS X.K (evS cx (.asg (.tp [i,j]) (.tup es)))):=by
 obtain ⟨_,_,_,rfl,h1⟩:=eU h
 obtain ⟨_,_,rfl,h2⟩:=kf h1
 obtain ⟨x,px,rfl,h3⟩:=vo h2
 obtain ⟨z,pz,rfl,h4⟩:=vo h3
 obtain ⟨_,_,_,rfl,h5⟩:=eU h4
 obtain ⟨a,b,rfl,h6⟩:=kf h5
 clear h h1 h2 h3 h4 h5
 have h:=h6
 clear h6
 simp only [aa,decide_eq_true_eq,BP] at h
 obtain ⟨⟨⟨⟨⟨⟨⟨⟨⟨h1,h2⟩,h3⟩,h4⟩,h5⟩,h6⟩,h7⟩,h8⟩,h9⟩,h10⟩:=h
 rw [<- C.hN] at h1 h2
 rw [<- hS] at h3 h4
 obtain ⟨_,_,_,c1,c2⟩:=gH h7
 obtain ⟨_,_,_,c3,_⟩:=gH c2
 refine PS.imp (GX C.calm C.nd' h1 h2 (fun w=>h5 ?_) h3 h4 (hA a b h7 h8) (zD hB h3 h4 h5 h6 (bZ c1) (bZ c3) h9 h10)) fun E σ H ⟨G,F,δ,o,ok,ev,post⟩=>?_
 . rw [w] at h1
   exact aX (h1.symm.trans h2)
 obtain ⟨d,δ1,δ2,e1,e2,rfl⟩:=BB ev
 simp only [evE,ao,af] at e1
 obtain ⟨⟨ds,δ3⟩,ea,e3⟩:=e1
 split at e3
 . cases e3
   unfold eR at e2
   dsimp only at e2
   split at e2
   . rename_i hh
     cases e2
     refine ⟨G,F,δ,ds,_,ok,ea,fun vs H1 F1 st sm ok1 r=>?_⟩
     have r:=r.rl h8
     obtain ⟨d1,d2,rfl⟩:=FY hh.1
     have q:=hh.2
     simp only [dH,ib,gM,aa,decide_eq_true_eq] at q
     obtain ⟨v1,vs1,rfl,r1,q1⟩:=r
     obtain ⟨v2,vs2,rfl,r2,q2⟩:=q1
     obtain rfl:vs2 = []:=q2
     exact ⟨v1,v2,rfl,post _ H1 F1 st ((ok1.set q.1 r1).set (by rw [bb];exact q.2) r2)⟩
   . cases e2
 . cases e3
noncomputable def tN (K:PySem.W.Frag) (cx:Cl) (e:E):TE:=fun σ H Q=>∃ G F δ ds δ',Ok K G F σ H δ/\evE cx e δ = some (.lst ds,δ') /\
 ∀ p xs H1 F1,Step G F H F1 H1->Ok K G F1 σ H1 δ'->H1 p = none->aA K H1 F1 ds xs->Q (.ref p) (upd H1 p (.lst xs))
theorem DE {K:PySem.W.Frag} {G:Gh} {F1:Addr->Prop} {σ:L2.St} {H1:Hp} {δ1:Loc} {i:Nat} {p:Addr} {ds:List D} {xs:List V} (ok1:Ok K G F1 σ H1 δ1) (hp:H1 p = none) (rl:aA K H1 F1 ds xs) (hi:i < δ1.length) :
 Ok K G (fun b=>F1 b\/b = p) (σ.set i (some (.ref p))) (upd H1 p (.lst xs)) (δ1.set i (.own ds))/\Step G F1 H1 (fun b=>F1 b\/b = p) (upd H1 p (.lst xs)):=by
 obtain ⟨o1,o2⟩:=ok1.enter hp xs
 refine ⟨(o1.keep).own hi (.inr rfl) (ok1.free hp) bt (aA.step ok1.fd o2 ds xs rl) fun j s e ho z=>?_,o2⟩
 obtain ⟨a,u,d,e1,_,_,e2,_⟩:=dh.ow (ok1.sl j _ e) ho
 rw [z] at e1
 cases e1
 rw [hp] at e2
 cases e2
theorem zP (C:Cok X c cx k) {i:Nat} {e:E} {t:Str} {y:Expr} {pos p2:Pos} (h:eX c i t = true) (hy:ckE c e y = true) (nc:(!fj y) = true) (he:PE X y (tN X.K cx e)):PS X (.Assign [.Name t p2] y pos) (tS X.K (evS cx (.new i e))):=by
 obtain ⟨n1,n2,n3⟩:=C.to h
 have nc':fj y = false:=by simpa using nc
 refine PS.imp (pW C.nd' n1 n2 he (gX (bZ hy) nc' _ _ _) n3) fun E σ H ⟨G,F,δ,o,ok,ev,post⟩=>?_
 simp only [evS,ao,af] at ev
 obtain ⟨⟨d,δ1⟩,e1,ev⟩:=ev
 cases d with
 | lst ds =>
   dsimp only at ev
   split at ev
   . cases ev
     refine ⟨G,F,δ,ds,δ1,ok,e1,fun p xs H1 F1 st ok1 hp rl=>?_⟩
     obtain ⟨o1,o2⟩:=DE ok1 hp rl ‹_›
     exact post _ _ _ (st.trans o2) o1
   . cases ev
 | _=>cases ev
theorem zV {es:Es} {xs:List Expr} {pos:Pos} (n:ir es = true) (h:PA X xs (tEs X.K cx es)):PE X (.List xs pos) (tN X.K cx (.lst es)):=by
 refine PE.imp (mn h) fun σ H Q h=>?_
 obtain ⟨G,F,δ,d,δ',ok,ev,post⟩:=h
 simp only [evE,ao,af] at ev
 obtain ⟨⟨ds,δ1⟩,ea,ev⟩:=ev
 split at ev
 . rename_i hz
   cases ev
   refine ⟨G,F,δ,ds,δ1,ok,ea,fun vs H1 F1 st1 sm1 ok1 r1=>?_⟩
   have r:=r1.rl n
   exact ⟨by rw [r.length];exact hz,fun p hp=>post p vs H1 F1 st1 ok1 hp r⟩
 . cases ev
theorem xu (C:Cok X c cx k) {es:Es} {p pos:Pos} {y:Expr} {ys:List Expr} (hg:eC c (oW .toLst) = true) (hA:PA X (y::ys) (tEs X.K cx es)) (h:gI c es (y::ys) = true):PE X (.Call (.Name (oW .toLst) p) (y::ys) [] pos) (tN X.K cx (.blt .toLst es)):=by
 obtain ⟨g1,g2,g3⟩:=C.global hg
 obtain ⟨e,es',rfl,h1,h2⟩:=gH h
 have he:=cJ (bZ h1) ys X.env
 have hpl:=ig (env:=X.env) (pos:=pos) h2
 refine PE.imp (fP jL g1 (C.blt _ (by decide +kernel)) rfl hA g3 g2 he hpl) fun σ H Q h=>?_
 obtain ⟨G,F,δ,ds,δ',ok,ev,post⟩:=h
 simp only [evE] at ev
 obtain ⟨zs,ea,hd⟩:=vT ev
 refine ⟨G,F,δ,zs,δ',ok,ea,fun vs H1 F1 st1 sm1 ok1 r1=>?_⟩
 have r:=r1.bl
 change jW zs = some (D.lst ds) at hd
 unfold jW at hd
 split at hd
 . cases hd
   obtain ⟨v,rfl,r9⟩:=b1 r
   obtain ⟨a,ws,rfl,h1,h2⟩:=r9.lst
   exact ⟨a,ws,rfl,.inl h1.sq,fun l hl=>post l ws H1 F1 st1 ok1 hl h2⟩
 . cases hd
   obtain ⟨v,rfl,r9⟩:=b1 r
   obtain ⟨a,ws,rfl,h1,h2⟩:=r9.tup
   exact ⟨a,ws,rfl,.inr h1,fun l hl=>post l ws H1 F1 st1 ok1 hl h2⟩
 . cases hd
theorem CU {a:E} {lo hi:Eo} {y:Expr} {l h:Option Expr} {pos p2:Pos} (pc:(!bG a || (npO lo && npO hi)) = true) (ha:PE X y (tE X.K cx a)) (hl:PO X l (tO X.K cx lo)) (hh:PO X h (tO X.K cx hi)):PE X (.Subscript y (.Slice l h none p2) pos) (tN X.K cx (.sl a lo hi)):=by
 refine PE.imp (rW uX ha hl hh) fun σ H Q h=>?_
 obtain ⟨G,F,δ,ds,δ',ok,ev,post⟩:=h
 simp only [evE,ao,af] at ev
 obtain ⟨⟨x,δ1⟩,ea,⟨l',δ2⟩,eb,⟨h',δ3⟩,ec,d',hd,e⟩:=ev
 cases e
 dsimp only at eb ec hd post
 refine ⟨G,F,δ,x,δ1,ok,ea,fun v H1 F1 st1 sm1 ok1 r1=>⟨G,F1,δ1,l',δ2,ok1,eb,fun H2 F2 st2 sm2 ok2=>⟨G,F2,δ2,h',δ3,ok2,ec,fun H3 F3 st3 sm3 ok3=>?_⟩⟩⟩
 have st:=st2.trans st3
 have rb:cU X.K H3 F3 x v:=by
  refine (RelM.step ok1.fd st (fun z=>?_) r1).b
  rw [z] at pc
  have pc':(npO lo && npO hi) = true:=by simpa using pc
  rw [aa] at pc'
  exact (sm2 pc'.1).trans (sm3 pc'.2)
 unfold slD at hd
 split at hd
 . cases hd
   obtain ⟨p,xs,e1,h1,h2⟩:=rb.lst
   exact ⟨p,xs,e1,h1.sq,fun q hq=>post q _ H3 F3 (st1.trans st) ok3 hq (h2.cut l' h')⟩
 . split at hd
   . cases hd
   . cases hd
 . split at hd
   . cases hd
   . cases hd
 . cases hd
end
end PP
end
section
namespace PP
open PySem L2 PyProof.Rows
variable [Tbs]
section
variable {X:Cx} {c:Ck} {cx:Cl} {k:Nat}
theorem zM {e:E} {y:Expr} {pos:Pos} (n:(!bG e) = true) (he:PE X y (tE X.K cx e)):PS X (.Return (some y) pos) (tS X.K (evS cx (.ret e))):=PS.imp (GW he) fun E σ H ⟨G,F,δ,out,ok,ev,post⟩=>by
 simp only [evS,ao,af] at ev
 obtain ⟨⟨d,δ1⟩,e1,ev⟩:=ev
 cases ev
 exact ⟨G,F,δ,d,δ1,ok,e1,fun v H1 F1 st sm ok1 r=>post v σ H1 F1 st ok1 (da n r)⟩
theorem xm {pos:Pos}:PS X (.Return none pos) (tS X.K (evS cx .retN)):=PS.imp Dw fun E σ H ⟨G,F,δ,out,ok,ev,post⟩=>by
 simp only [evS] at ev
 cases ev
 exact post .non σ H F Step.refl ok pU
theorem zQ {t:E} {a b:Ss} {y:Expr} {ya yb:List Stmt} {pos:Pos} (ht:PT X y (tT X.K cx t)) (ha:PSs X ya (tS X.K (dO cx a))) (hb:PSs X yb (tS X.K (dO cx b))):PS X (.If y ya yb pos) (tS X.K (evS cx (.ifs t a b))):=PS.imp (ED ht ha hb) fun E σ H ⟨G,F,δ,out,ok,ev,post⟩=>by
 simp only [evS,ao,af] at ev
 obtain ⟨⟨q,δ1⟩,e1,ev⟩:=ev
 refine ⟨G,F,δ,q,δ1,ok,e1,fun H1 F1 st sm ok1=>?_⟩
 cases q with
 | true=>exact JQ ⟨G,F1,δ1,out,ok1,ev,post.step st⟩
 | false=>exact JR ⟨G,F1,δ1,out,ok1,ev,post.step st⟩
theorem xo {pos:Pos}:PS X (.Pass pos) (tS X.K (evS cx .pass)):=PS.imp Dx fun E σ H ⟨G,F,δ,out,ok,ev,post⟩=>by
 simp only [evS] at ev
 cases ev
 exact post σ H F Step.refl ok
theorem zS {pos:Pos}:PS X (.Break pos) (tS X.K (evS cx .brk)):=PS.imp Ag fun E σ H ⟨G,F,δ,out,ok,ev,post⟩=>by
 simp only [evS] at ev
 cases ev
 exact post σ H F Step.refl ok
theorem xp {pos:Pos}:PS X (.Continue pos) (tS X.K (evS cx .cont)):=PS.imp rS fun E σ H ⟨G,F,δ,out,ok,ev,post⟩=>by
 simp only [evS] at ev
 cases ev
 exact post σ H F Step.refl ok
theorem zR (C:Cok X c cx k) {tg:Tg} {src:It} {body:Ss} {t it:Expr} {ys:List Stmt} {pos:Pos} (htg:uA c tg t = true) (hI:PI X t it (tI X.K cx src)) (hset:∀ v,foldedSetIterable it X.env v = pure v) (hb:PSs X ys (tS X.K (dO cx body))):PS X (.For t it ys [] pos) (tS X.K (evS cx (.for_ tg src body))):=by
 have hp:PassesOwn (model X.prog X.w) X.A X.env X.xe:=by rw [C.xe];exact wm
 refine PS.imp (Af hp C.calm hI (tY C htg) hb hset) fun E σ H ⟨G,F,δ,out,ok,ev,post⟩=>?_
 simp only [evS,ao,af] at ev
 obtain ⟨⟨ds,δ1⟩,e1,ev⟩:=ev
 dsimp only at ev
 generalize ef:(fun (x:D) (δ0:Loc)=>match eR δ0 tg x with | some δ2=>dO cx body δ2 | none=>none) = f at ev
 refine ⟨G,F,δ,ds,δ1,ok,e1,fun J H1 F1 st sm ok1 wk=>?_⟩
 refine ⟨fun i m σ' H'=>∃ F' δ',m = ds.length - i/\i<=ds.length/\Step G F1 H1 F' H'/\Ok X.K G F' σ' H' δ'/\forL f (ds.drop i) δ' = some out,⟨_,F1,δ1,rfl,bA _,Step.refl,ok1,ev⟩,?_⟩
 rintro i m σ' H' ⟨F',δ',rfl,hi,st',ok',ev'⟩
 by_cases hlt:i < ds.length
 . right
   obtain ⟨d,hd⟩:∃ d,ds[i]? = some d:=⟨ds[i],by simp [hlt]⟩
   obtain ⟨go,yl⟩:=(wk _ F' H' st' ok'.fd i).1 d hd
   refine ⟨go,?_⟩
   have edr:ds.drop i = d::ds.drop (i+1):=by
    rw [en hlt]
    congr 1
    rw [ax hlt] at hd
    exact aX hd
   rw [edr] at ev'
   unfold forL at ev'
   refine ⟨fun σ2 H2=>∃ m',m' < ds.length - i/\∃ F2 δ2,m' = ds.length - (i+1)/\i+1<=ds.length/\Step G F1 H1 F2 H2/\Ok X.K G F2 σ2 H2 δ2/\forL f (ds.drop (i+1)) δ2 = some out,fun σ2 H2 z=>z,fun x H3 hy=>?_⟩
   obtain ⟨e3,rx⟩:=yl x H3 hy
   subst e3
   cases hf:f d δ' with
   | none=>rw [hf] at ev';cases ev'
   | some o1 =>
     have hf':=hf
     rw [<- ef] at hf'
     dsimp only at hf'
     cases hs:eR δ' tg d with
     | none=>rw [hs] at hf';cases hf'
     | some δ2 =>
       rw [hs] at hf'
       refine pJ ok' rx hs fun σ2 ok2 _=>⟨G,F',δ2,o1,ok2,hf',?_⟩
       rw [hf] at ev'
       cases o1 with
       | nx δ3=>exact fun σ3 H4 F4 s4 k4=>⟨_,by omega,F4,δ3,rfl,hlt,st'.trans s4,k4,ev'⟩
       | ct δ3=>exact fun σ3 H4 F4 s4 k4=>⟨_,by omega,F4,δ3,rfl,hlt,st'.trans s4,k4,ev'⟩
       | bk δ3 =>
         cases ev'
         exact fun σ3 H4 F4 s4 k4=>post σ3 H4 F4 ((st.trans st').trans s4) k4
       | rt d3 δ3 =>
         cases ev'
         exact fun v σ3 H4 F4 s4 k4 r4=>post v σ3 H4 F4 ((st.trans st').trans s4) k4 r4
       | ro d3 δ3 =>
         cases ev'
         exact fun a xs σ3 H4 F4 s4 k4=>post a xs σ3 H4 F4 ((st.trans st').trans s4) k4
 . left
   have hi':i = ds.length:=by omega
   subst hi'
   refine ⟨(wk _ F' H' st' ok'.fd ds.length).2 rfl,?_⟩
   rw [lJ] at ev'
   cases ev'
   exact post σ' H' F' (st.trans st') ok'
end
end PP
end
section
namespace PP
open PySem L2 PyProof.Rows
variable [Tbs]
section
variable {X:Cx} {c:Ck} {cx:Cl} {k:Nat}
theorem Kd {c:Ck} {e:E} {z:Expr} {env:Env} {cp:Pos} (h:ckE c e z = true):((backTo cp (starEach [z] env)).all (fun x=>!x.1) && (backToKw cp (keywordEach [] env)).all (fun x=>x.1.isSome)
 && decide (([z]:List Expr).length+([]:List Keyword).length+(if ([]:List Keyword).isEmpty then 0 else 1) < 30)) = true:=by
 rw [cJ (bZ h)]
 rfl
theorem rA {i:Nat} {e:E} {x:Str} {z:Expr} {p1 p2 ap cp:Pos} (C:Cok X c cx k) (hx:gk c i x = true) (hl:ap.endLine = cp.line) (hz:ckE c e z = true) (n:(!bG e) = true) (he:PE X z (tE X.K cx e)) :
 PS X (.Expr (.Call (.Attribute (.Name x p1) "append" ap) [z] [] cp) p2) (tS X.K (evS cx (.append i e))):=by
 obtain ⟨n1,n2,n3,n4⟩:=C.name hx
 have hs:=cJ (bZ hz) [] X.env
 have hA:PA X [z] (tEs X.K cx (.cons e .nil)):=lX (by simp [npS]) he pM hs
 refine PS.imp (pX (EF PySem.F.plainAttrs_list PySem.F.slot_list_append PySem.F.type_list_append kg (je n1 n2 n3 n4) hA rfl (Kd hz) (by simpa using hl) hs rfl)) fun E σ H ⟨G,F,δ,out,ok,ev,post⟩=>?_
 simp only [evS] at ev
 cases q:δ[i]? with
 | none=>rw [q] at ev;cases ev
 | some s =>
   rw [q] at ev
   cases s with
   | no=>cases ev
   | fnc _ _=>cases ev
   | odc _ _=>cases ev
   | val _=>cases ev
   | own ds0 =>
     simp only [ao,af] at ev
     obtain ⟨⟨d,δ1⟩,e1,ev⟩:=ev
     dsimp only at ev
     obtain ⟨a,xs0,ea,f1,f2,f3,f4⟩:=ok.sl i _ q
     cases q1:δ1[i]? with
     | none=>rw [q1] at ev;cases ev
     | some s1 =>
       rw [q1] at ev
       cases s1 with
       | no=>cases ev
       | fnc _ _=>cases ev
       | odc _ _=>cases ev
       | val _=>cases ev
       | own ds =>
         dsimp only at ev
         split at ev
         . rename_i hz'
           cases ev
           refine ⟨.ref a,ea,.inl ⟨rfl,xs0,.inl (.inl f3)⟩,G,F,δ,[d],δ1,ok,by simp [gY,e1],fun vs H1 F1 st sm ok1 r=>?_⟩
           obtain ⟨d',ds',v,vs',ed,rfl,rv,rn⟩:=r
           cases ed
           obtain ⟨_,rfl⟩:=rn
           have rv':=da n rv
           obtain ⟨a',xs,ea',g1,g2,g3,g4⟩:=ok1.sl i _ q1
           rw [ea] at ea'
           cases ea'
           obtain ⟨o1,o2⟩:=ok1.write q1 ea (g4.append (aA.one rv'))
           exact ⟨a,xs,v,rfl,rfl,g3,by rw [g4.length];exact hz',post σ _ F1 (st.trans o2) o1⟩
         . cases ev
theorem zT {x:Stmt}:PS X x (tS X.K (evS cx .bad)):=fun pins s σ H D I h=>by
 obtain ⟨G,F,δ,out,ok,ev,post⟩:=h
 rw [evS] at ev
 cases ev
theorem KR {e:E} {y:Expr} (hm:newOk e = true) (C:Cok X c cx k) (h:ckE c e y = true):PE X y (tN X.K cx e):=by
 unfold newOk at hm
 split at hm
 . obtain ⟨_,_,rfl,hh⟩:=ik h
   rw [aa] at hh
   exact zV hh.2 (eQ _ X c _ C hh.1 (gR hh.2))
 . rename_i es
   obtain ⟨_,_,xs,_,rfl,hh⟩:=eV h
   simp only [aa] at hh
   obtain ⟨⟨h1,h2⟩,h3⟩:=hh
   have e1:=of_decide_eq_true h1
   subst e1
   have h3:(!xs.isEmpty && gI c es xs && nN es) = true:=h3
   simp only [aa] at h3
   cases xs with
   | nil=>simp at h3
   | cons y ys=>exact xu C h2 (eQ _ X c _ C h3.1.2 h3.2) h3.1.2
 . obtain ⟨_,_,_,rfl,hh⟩:=ij h
   obtain ⟨_,_,o,_,rfl,h9⟩:=vm hh
   simp only [aa] at h9
   obtain ⟨h0,⟨⟨h1,h2⟩,h3⟩,h4⟩:=h9
   obtain rfl:=cX.mp h0
   exact CU (by simpa using h4) (dt _ X c _ C h1) (CT _ X c _ C h2) (CT _ X c _ C h3)
 . cases hm
end
section
variable {X:Cx} {c:Ck} {cx:Cl} {k:Nat}
end
section
variable {X:Cx} {c:Ck} {cx:Cl} {k:Nat} (C:Cok X c cx k) (hS:X.env.scope = c.sc) (hB:X.env.blockKind = .function)
include C hS hB
mutual
theorem Jq:∀ (s:S) (x:Stmt),ckS c s x = true->PS X x (tS X.K (evS cx s))
 | .asg tg e,x,h=>by
   obtain ⟨_,_,_,rfl,hq1⟩:=iq h
   obtain ⟨_,rfl,hq2⟩:=dM hq1
   replace h:=hq2
   . simp only [aa] at h
     obtain ⟨⟨⟨⟨h1,h2⟩,h3⟩,h4⟩,h5⟩:=h
     rw [bf] at h5
     rcases h5 with h5 | h5
     . exact zU C h5 h1 h2 h3 h4 (dt e X c _ C h2)
     . unfold EH at h5
       split at h5
       . exact zN C hS hB h5 fun a b q n=>eQ _ X c _ C q (gR n)
       . cases h5
 | .new i e,x,h=>by
   obtain ⟨_,_,_,rfl,hq1⟩:=iq h
   obtain ⟨_,rfl,hq2⟩:=dM hq1
   obtain ⟨_,_,rfl,hq3⟩:=bL hq2
   replace h:=hq3
   . simp only [aa] at h
     obtain ⟨⟨⟨h1,h2⟩,h3⟩,h4⟩:=h
     exact zP C h1 h2 h3 (KR h4 C h2)
 | .ret e,x,h=>by
   obtain ⟨_,_,rfl,hq1⟩:=rZ h
   obtain ⟨_,rfl,hq2⟩:=Aq hq1
   replace h:=hq2
   . rw [aa] at h
     exact zM h.2 (dt e X c _ C h.1)
 | .retN,x,h=>by
   obtain ⟨y,_,rfl,hh⟩:=rZ h
   obtain rfl:=cX.mp hh
   exact xm
 | .ifs t a b,x,h=>by
   obtain ⟨_,_,_,_,rfl,hq1⟩:=sf h
   replace h:=hq1
   . simp only [aa] at h
     exact zQ (jX t X c _ C h.1.1) (ou a _ h.1.2) (ou b _ h.2)
 | .for_ tg src body,x,h=>by
   obtain ⟨_,_,_,_,_,rfl,hq1⟩:=sg h
   obtain ⟨rfl,hq2⟩:=eW hq1
   replace h:=hq2
   . simp only [aa] at h
     exact zR C h.1.1 (Gv src X c _ _ C h.1.2) (fun v=>qw h.1.2 _ v) (ou body _ h.2)
 | .append i e,x,h=>by
   obtain ⟨_,_,rfl,hh⟩:=pZ h
   obtain ⟨_,_,_,_,_,rfl,hln,h2⟩:=Ar hh
   obtain ⟨_,_,rfl,h3⟩:=bL h2
   obtain ⟨_,rfl,h4⟩:=dM h3
   simp only [aa] at h4
   obtain ⟨⟨⟨a1,a2⟩,a3⟩,a4⟩:=h4
   have z:=of_decide_eq_true a1
   subst z
   exact rA C a2 hln a3 a4 (dt e X c _ C a3)
 | .opq _,x,h=>nomatch (h:false = true)
 | .bad,x,h=>zT
 | .pass,x,h=>by
   obtain ⟨_,⟨_,rfl⟩ | ⟨e,_⟩ | ⟨e,_⟩⟩:=qg h
   . exact xo
   . cases e
   . cases e
 | .brk,x,h=>by
   obtain ⟨_,⟨e,_⟩ | ⟨_,rfl⟩ | ⟨e,_⟩⟩:=qg h
   . cases e
   . exact zS
   . cases e
 | .cont,x,h=>by
   obtain ⟨_,⟨e,_⟩ | ⟨e,_⟩ | ⟨_,rfl⟩⟩:=qg h
   . cases e
   . cases e
   . exact xp
theorem ou:∀ (ss:Ss) (xs:List Stmt),dX c ss xs = true->PSs X xs (tS X.K (dO cx ss))
 | .nil,xs,h=>by
   obtain ⟨rfl,hq1⟩:=eW h
   replace h:=hq1
   . exact zO
 | .cons s ss,xs,h=>by
   obtain ⟨_,_,rfl,hq1⟩:=dc h
   replace h:=hq1
   . rw [aa] at h
     exact xt (Jq s _ h.1) (ou ss _ h.2)
end
end
end PP
end
section
namespace PP
open PySem L2 PyProof.Rows
variable [Tbs]
structure Dn (K:PySem.W.Frag) (mgv:Str->Option Value) (cf:List (Str × List Str)) (gn:List Str) (fd:Fd) (st:Stmt) (a:Addr) (fdd:FuncData):Prop where
 fn:Fun K fd.name fd.name st a fdd
 mg:mgv fd.name = some (.ref a)
 sc:bx (fd.ps++fd.loc) fd.ps (au st)
 ck:dX ⟨fd.ps++fd.loc,au st,cf,gn⟩ fd.body (aJ st) = true\/∀ (X:Cx) (cx:Cl) (k:Nat),Cok X ⟨fd.ps++fd.loc,au st,cf,gn⟩ cx k->X.env.scope = au st->X.env.blockKind = .function->X.K = K->X.mg = mgv->PSs X (aJ st) (tS K (dO cx fd.body))
 bd:Binds K fdd fd.ps []
noncomputable def BF (K:PySem.W.Frag) (mg:Str->Option Value) (cf:List (Str × List Str)) (gn:List Str):List Fd->Prop
 | []=>True
 | fd::r=>(∃ st a fdd,Dn K mg cf gn fd st a fdd)/\BF K mg cf gn r
theorem ph {K:PySem.W.Frag} {mg:Str->Option Value} {cf:List (Str × List Str)} {gn:List Str}:∀ {G:List Fd} {i:Nat} {fd:Fd},BF K mg cf gn G->G[i]? = some fd->∃ st a fdd,Dn K mg cf gn fd st a fdd
 | [],_,_,_,e=>by simp at e
 | f::r,0,fd,h,e=>by
   cases e
   exact h.1
 | f::r,i+1,fd,h,e=>ph (i:=i) h.2 (by simpa using e)
noncomputable def cm (G:List Fd):List (Str × List Str):=G.map fun fd=>(fd.name,fd.ps)
structure Top (w:World) (K:PySem.W.Frag) (mg:Str->Option Value) (G Gd:List Fd) (gl:List D) (gn:List Str):Prop where
 fns:BF K mg (cm Gd) gn Gd
 sub:∀ (i:Nat) (fd:Fd),Gd[i]? = some fd->G[i]? = some fd
 few:G.length<=rX
 blt:∀ x,x∈jM->mg x = none
 glob:∀ (g:Nat) (x:Str) (d:D),gn[g]? = some x->gl[g]? = some d->∃ u v,mg x = some u/\RelV v u/\∀ H F,Rel K H F d v
 gsome:∀ (g:Nat) (x:Str),gn[g]? = some x->∃ d,gl[g]? = some d
 gds:∀ (n:Str) (l:List (Str × Int)),Tbs.gds.lookup n = some l->∃ a,mg n = some (.ref a)/\GdK w K a l
theorem rh {K:PySem.W.Frag} {H:Hp} {F:Addr->Prop} {ds:List D} {vs:List V} {N:List Str} (fd:FD F H) (tf:TF F) (tb:iC H) (r:aA K H F ds vs) (hl:vs.length<=N.length):Ok K ⟨H,fun b=>F b/\∃ o,H b = some o/\Mo o⟩ F (start N vs) H (init N.length ds):=by
 have hlen:=r.length
 have low:∀ (i:Nat) (s:Sl),(init N.length ds)[i]? = some s->s = .no\/∃ d,ds[i]? = some d/\s = .val d:=fun i s e=>by
  unfold init at e
  by_cases hi:i < ds.length
  . rw [aM (by simpa using hi),aS,ax hi] at e
    cases e
    exact .inr ⟨_,ax hi,rfl⟩
  . rw [aU (by simp;omega),dv] at e
    split at e
    . cases e;exact .inl rfl
    . cases e
 refine ⟨Sim.refl H,fd,fun b z=>z.1,fun b z=>z.2,tf,tb,?_,fun i s e=>?_,fun i j s t a e1 _ o1=>?_⟩
 . unfold init L2.start
   simp only [az,aj,dI]
   omega
 . rcases low i s e with rfl | ⟨d,e1,rfl⟩
   . trivial
   . obtain ⟨v,hv,rv⟩:=r.get e1
     refine ⟨v,?_,rv⟩
     unfold L2.start
     have hi:i < vs.length:=(aE.mp hv).1
     rw [aM (by simpa using hi),aS,hv]
     rfl
 . rcases low i _ e1 with z | ⟨d,_,z⟩<;>(subst z;cases o1)
theorem grow {K:PySem.W.Frag} {H H':Hp} {F F':Addr->Prop} {σ:L2.St} {δ:Loc} (hfd:FD F H) (ok:Ok K ⟨H,fun b=>F b/\∃ o,H b = some o/\Mo o⟩ F' σ H' δ) (b:Addr) (z:F b):F' b:=by
 obtain ⟨o,e,m | ⟨⟨ps,rfl⟩,t,ht,eb⟩⟩:=hfd b z
 . exact ok.rf b ⟨z,o,e,m⟩
 . rw [<- eb];exact ok.tf t ht
theorem okC {P:Program} {w:World} {K:PySem.W.Frag} {mg:Str->Option Value} {base:Heap} {x qual:Str} {st:Stmt} {f:Addr} {fd:FuncData} {N ps:List Str} {k:Nat} {sp:Sp} (F:Fun K x qual st f fd) (S:bx N ps (au st)) (len:∀ vs H Q E,sp vs H Q E->vs.length = ps.length)
 (hbody:∀ (A:Around) (outer:List Env) (s:Shared) (H:Hp) (vs:List V) (Q:VK) (E:XK),eJ k (A.deeper (envOfC qual (au st) s.heap.objs.size f fd.code))->sp vs H Q E ->
   ∃ t,PSs (kS CX0 P w K mg base N qual (au st) f fd.code A outer s H E).nox (aJ st) t/\t { nx:=fun _ H'=>Q .non H',rt:=Q } (L2.start N vs) H):fN P w K mg base CX0 (k+1) f fd ps sp:=by
 obtain ⟨oc,od,kV,doc,pm,an,cdv,ct,osl,rfl,lk,hcd⟩:=F.ex
 refine ET lk hcd S len fun A outer s H vs Q E hr hsp=>?_
 obtain ⟨t,h,q⟩:=hbody A outer s H vs Q E hr hsp
 exact ⟨t,h.nox,q⟩
section
variable {P:Program} {w:World} {K:PySem.W.Frag} {mg:Str->Option Value} {base:Heap} {G Gd:List Fd} {gl:List D} {gn:List Str}
noncomputable def BM (mg:Str->Option Value) (base:Heap):Prop:=∃ bm ob,mg "__builtins__" = some (.ref bm)/\bm≠builtinsNs/\base.get? bm = some ob/\ob.cls = .type "module"/\ob.dict = some builtinsNs/\ob.data = .plain
theorem uZ {n i:Nat} {fd:Fd} (e:G[i]? = some fd) {ds:List D} {d:D} (h:run G gl (n+1) i ds = some d):ds.length = fd.ps.length/\∃ δ,entry fd.hf (fd.ps++fd.loc).length ds = some δ/\outD (dO ⟨run G gl n,gl,hfs G⟩ fd.body δ) = some d:=by
 unfold run at h
 rw [e] at h
 dsimp only at h
 split at h
 . cases q:entry fd.hf (fd.ps++fd.loc).length ds with
   | none=>rw [q] at h;cases h
   | some δ=>rw [q] at h;exact ⟨‹_›,δ,rfl,h⟩
 . cases h
theorem vk {n i:Nat} {fd:Fd} (few:G.length<=rX) (e:G[i]? = some fd) {ds:List D} {d:D} (h:run G gl (n+1) (i+rX) ds = some d):ds.length = fd.ps.length/\∃ δ,entry fd.hf (fd.ps++fd.loc).length ds = some δ/\Hj (dO ⟨run G gl n,gl,hfs G⟩ fd.body δ) = some d:=by
 unfold run at h
 rw [cV (by omega)] at h
 dsimp only at h
 rw [Nat.add_sub_cancel,e] at h
 dsimp only at h
 split at h
 . cases q:entry fd.hf (fd.ps++fd.loc).length ds with
   | none=>rw [q] at h;cases h
   | some δ=>rw [q] at h;exact ⟨(‹_/\_›).2,δ,rfl,h⟩
 . cases h
theorem oH {H:Hp} {F:Addr->Prop} {ds:List D} {vs:List V} (r:aA K H F ds vs) {k:Nat} {cs:List D} (e:ds.getLast? = some (.fn k cs)):False:=by
 rw [List.getLast?_eq_getElem?] at e
 obtain ⟨v,_,rv⟩:=r.get e
 unfold Rel at rv
 exact rv
theorem Aa {n f:Nat} {ds:List D} (z:n = 0):run G gl n f ds = none:=by
 subst z
 rfl
theorem BE (T:Top w K mg G Gd gl gn) (hK:K.In base) (hB:BM mg base):∀ n:Nat,(∀ (i:Nat) (fd:Fd) (st:Stmt) (a:Addr) (fdd:FuncData),Gd[i]? = some fd->Dn K mg (cm Gd) gn fd st a fdd ->
 fN P w K mg base CX0 n a fdd fd.ps (spF K (run G gl n i))/\fN P w K mg base CX0 n a fdd fd.ps (spO K (run G gl n (i+rX))))/\True
 | 0=>by
   have z:∀ i ds d,run G gl 0 i ds≠some d:=fun i ds d h=>by unfold run at h;cases h
   refine ⟨fun i fd st a fdd e _=>⟨⟨fun vs H Q E h=>?_,fun A outer s H args us vs Q E _ _ _ _ h=>?_⟩,⟨fun vs H Q E h=>?_,fun A outer s H args us vs Q E _ _ _ _ h=>?_⟩⟩,trivial⟩
   . obtain ⟨F,ds,d,_,_,_,_,h1,_⟩:=h;exact (z _ _ _ h1).elim
   . obtain ⟨F,ds,d,_,_,_,_,h1,_⟩:=h;exact (z _ _ _ h1).elim
   . obtain ⟨F,ds,d,_,_,_,_,h1,_⟩:=h;exact (z _ _ _ h1).elim
   . obtain ⟨F,ds,d,_,_,_,_,h1,_⟩:=h;exact (z _ _ _ h1).elim
 | n+1=>by
   obtain ⟨ih,_⟩:=BE T hK hB n
   have fns:∀ (f:Nat) (x:Str) (ps:List Str),(cm Gd)[f]? = some (x,ps)->∃ gd st a fdd,gd.name = x/\gd.ps = ps/\Gd[f]? = some gd/\Dn K mg (cm Gd) gn gd st a fdd:=fun f x ps hf=>by
    have hf':(Gd.map fun fd=>(fd.name,fd.ps))[f]? = some (x,ps):=hf
    rw [aS,aL] at hf'
    obtain ⟨gd,eg,ep⟩:=hf'
    cases ep
    obtain ⟨st',a',fdd',D'⟩:=ph T.fns eg
    exact ⟨gd,st',a',fdd',rfl,rfl,eg,D'⟩
   have fn1:∀ (f:Nat) (x:Str) (ps:List Str),(cm Gd)[f]? = some (x,ps)->∃ a fd,mg x = some (.ref a)/\PySem.W.keepIn K (.ref a) = true/\Binds K fd ps []/\fN P w K mg base CX0 n a fd ps (spF K (run G gl n f)):=fun f x ps hf=>by
    obtain ⟨gd,st,a,fdd,rfl,rfl,eg,D'⟩:=fns f x ps hf
    exact ⟨a,fdd,D'.mg,D'.fn.kp,D'.bd,(ih f gd st a fdd eg D').1⟩
   have fn3:∀ (f:Nat) (x:Str) (ps:List Str),(cm Gd)[f]? = some (x,ps)->∃ a fd,mg x = some (.ref a)/\PySem.W.keepIn K (.ref a) = true/\Binds K fd ps []/\fN P w K mg base CX0 n a fd ps (spO K (run G gl n (f+rX))):=fun f x ps hf=>by
    obtain ⟨gd,st,a,fdd,rfl,rfl,eg,D'⟩:=fns f x ps hf
    exact ⟨a,fdd,D'.mg,D'.fn.kp,D'.bd,(ih f gd st a fdd eg D').2⟩
   refine ⟨fun i fd st a fdd e Dd=>?_,trivial⟩
   . have eG:=T.sub i fd e
     have C:∀ (A:Around) (outer:List Env) (s:Shared) (H:Hp) (E:XK),eJ n (A.deeper (envOfC fd.name (au st) s.heap.objs.size a fdd.code)) ->
      Cok (kS CX0 P w K mg base (fd.ps++fd.loc) fd.name (au st) a fdd.code A outer s H E).nox ⟨fd.ps++fd.loc,au st,cm Gd,gn⟩ ⟨run G gl n,gl,hfs G⟩ n:=fun A outer s H E hr =>
      ⟨rfl,Dd.sc.nd,fun x hx=>hx,fun x hx=>hx,fun x hx=>⟨hx,.inl rfl⟩,fun x hx=>hx,rfl,rfl,hr,fn1,fn3,T.blt,T.glob,T.gsome,T.gds,fun z f ds=>Aa z⟩
     have B:∀ (A:Around) (outer:List Env) (s:Shared) (H:Hp) (E:XK),eJ n (A.deeper (envOfC fd.name (au st) s.heap.objs.size a fdd.code)) ->
      PSs (kS CX0 P w K mg base (fd.ps++fd.loc) fd.name (au st) a fdd.code A outer s H E).nox (aJ st) (tS K (dO ⟨run G gl n,gl,hfs G⟩ fd.body)):=fun A outer s H E hr=>by
      have hblk:(kS CX0 P w K mg base (fd.ps++fd.loc) fd.name (au st) a fdd.code A outer s H E).nox.env.blockKind = .function:=by
       unfold Env.blockKind
       show (if (au st).kind.isAnnotationScope then ScopeKind.function else (au st).kind) = _
       rw [Dd.sc.kind]
       rfl
      rcases Dd.ck with ck | oq
      . exact ou (cx:=⟨run G gl n,gl,hfs G⟩) (C A outer s H E hr) rfl hblk fd.body (aJ st) ck
      . exact oq _ _ n (C A outer s H E hr) rfl hblk rfl rfl
     have fin:∀ {F:Addr->Prop} {H:Hp} {σ:L2.St} {δ:Loc} {d:D} {Q:VK} {E:XK} (hfd:FD F H) (htf:TF F) (ok:Ok K ⟨H,fun b=>F b/\∃ o,H b = some o/\Mo o⟩ F σ H δ) (h2:outD (dO ⟨run G gl n,gl,hfs G⟩ fd.body δ) = some d) (q:∀ v H',Sim H H'->iC H'->Rel K H' F d v->Q v H'),
      tS K (dO ⟨run G gl n,gl,hfs G⟩ fd.body) { nx:=fun _ H'=>Q .non H',rt:=Q } σ H:=fun {F H σ δ d Q E} hfd htf ok h2 q=>by
      cases eo:dO ⟨run G gl n,gl,hfs G⟩ fd.body δ with
      | none=>rw [eo] at h2;cases h2
      | some o =>
        rw [eo] at h2
        refine ⟨⟨H,fun b=>F b/\∃ o,H b = some o/\Mo o⟩,F,_,o,ok,eo,?_⟩
        cases o with
        | nx δ =>
          cases h2
          exact fun σ' H' F' st' ok'=>q .non H' ok'.same ok'.tabs pU
        | rt d' δ =>
          cases h2
          refine fun v σ' H' F' st' ok' r'=>q v H' ok'.same ok'.tabs (Rel.step (G:=g0) ok'.fd ⟨fun _ _ _ e _=>e,fun b z=>?_,fun _ _ r _ _=>r.elim,fun _ ps e=>⟨ps,e⟩⟩ _ v r')
          exact .inl (grow hfd ok' b z)
        | ro ds' δ =>
          cases h2
          refine fun a xs σ' H' F' st' ok' f1 f2 hs r'=>q _ H' ok'.same ok'.tabs ?_
          exact dN.rel ok'.fd (grow hfd ok') (oG hfd f2.1) hs r'
        | bk δ=>cases h2
        | ct δ=>cases h2
     have fiO:∀ {F:Addr->Prop} {H:Hp} {σ:L2.St} {δ:Loc} {zs:D} {Q:VK} (hfd:FD F H) (htf:TF F) (ok:Ok K ⟨H,fun b=>F b/\∃ o,H b = some o/\Mo o⟩ F σ H δ) (h2:Hj (dO ⟨run G gl n,gl,hfs G⟩ fd.body δ) = some zs) (q:∀ a u H',Sim H H'->iC H'->H a = none->H' a = some u->dN K H' (fun b=>F b\/b = a) zs u->Q (.ref a) H'),
      tS K (dO ⟨run G gl n,gl,hfs G⟩ fd.body) { nx:=fun _ H'=>Q .non H',rt:=Q } σ H:=fun {F H σ δ zs Q} hfd htf ok h2 q=>by
      cases eo:dO ⟨run G gl n,gl,hfs G⟩ fd.body δ with
      | none=>rw [eo] at h2;cases h2
      | some o =>
        rw [eo] at h2
        refine ⟨⟨H,fun b=>F b/\∃ o,H b = some o/\Mo o⟩,F,_,o,ok,eo,?_⟩
        cases o with
        | ro ds' δ =>
          cases h2
          refine fun a xs σ' H' F' st' ok' f1 f2 hs r'=>q a xs H' ok'.same ok'.tabs f2.1 hs ?_
          have gr:∀ b,(F b\/b = a)->F' b:=fun b z=>by
           rcases z with z | z
           . exact grow hfd ok' b z
           . rw [z];exact f1
          exact dN.step (G:=g0) ok'.fd ⟨fun _ _ _ e _=>e,fun b z=>.inl (gr b z),fun _ _ r _ _=>r.elim,fun _ ps e=>⟨ps,e⟩⟩ r'
        | _=>cases h2
     refine ⟨okC Dd.fn Dd.sc (fun vs H Q E h=>?_) fun A outer s H vs Q E hr h=>?_,okC Dd.fn Dd.sc (fun vs H Q E h=>?_) fun A outer s H vs Q E hr h=>?_⟩
     . obtain ⟨F,ds,d,_,_,_,r,h1,_⟩:=h
       rw [r.length,(uZ eG h1).1]
     . obtain ⟨F,ds,d,hfd,htf,htb,r,h1,q⟩:=h
       obtain ⟨hl,δ,ed,h2⟩:=uZ eG h1
       have hlen:=r.length
       refine ⟨_,B A outer s H E hr,?_⟩
       unfold entry at ed
       split at ed
       . cases ed
         exact fin (E:=E) hfd htf (rh hfd htf htb r (by rw [hlen,hl,az];omega)) h2 q
       . split at ed
         . rename_i eq
           exact (oH r eq).elim
         . cases ed
     . obtain ⟨F,ds,zs,_,_,_,r,h1,_⟩:=h
       rw [r.length,(vk T.few eG h1).1]
     . obtain ⟨F,ds,zs,hfd,htf,htb,r,h1,q⟩:=h
       obtain ⟨hl,δ,ed,h2⟩:=vk T.few eG h1
       have hlen:=r.length
       refine ⟨_,B A outer s H E hr,?_⟩
       unfold entry at ed
       split at ed
       . cases ed
         exact fiO hfd htf (rh hfd htf htb r (by rw [hlen,hl,az];omega)) h2 q
       . split at ed
         . rename_i eq
           exact (oH r eq).elim
         . cases ed
end
end PP
end
section
namespace PP
open PySem L2 PyProof.Rows
variable [Tbs]
noncomputable def hS (a:Addr) (o:Option HO):Hp:=fun b=>if b = a/\o.isSome = true then o else if b∈Tbs.ts.map (·.1) then some (.tbl #[]) else none
theorem qh {a b:Addr} {o:Option HO} {u:HO} (e:hS a o b = some u):(b = a/\o = some u)\/(b∈Tbs.ts.map (·.1)/\u = .tbl #[]):=by
 unfold hS at e
 split at e
 . rename_i h;exact .inl ⟨h.1,e⟩
 . split at e
   . cases e;exact .inr ⟨‹_›,rfl⟩
   . cases e
theorem DR {P:Program} {w:World} {K:PySem.W.Frag} {mg mb:Str->Option Value} {fa a:Addr} {fd:FuncData} {x:Str} {f:List D->Option D} {s₁:Shared} {vs:List Value} {ns:List Int}
 (KX:K.In s₁.heap) (hns:s₁.heap.Ns mainGlobals mg) (hb:s₁.heap.Ns builtinsNs mb) (hbb:∀ x:Str,x≠"__name__"->mb x = bootBuiltins x) (hlim:s₁.heap.NoLimit) (hg:s₁.gens = #[]) (hbm:BM mg s₁.heap)
 (ha:s₁.heap.get? a = some { cls:=.type "list",data:=.seq vs.toArray }) (hi:IntsAre vs ns) (hl:ns.length<=sizeLine) (hr:eJ 200 callerA)
 (ht:∀ t∈Tbs.ts,s₁.heap.get? t.1 = some (PySem.W.tabObj #[])/\K.lookup t.1 = none/\isCodeTable s₁.heap t.1)
 (F:∀ base:Heap,K.In base->BM mg base->fN P w K mg base CX0 200 fa fd [x] (spF K f)) (hbind:∀ (s:Shared) (u:Value),BindsTo s fd ⟨[u],[]⟩ [(x,u)])
 (hf:f [.lst (ns.map .int)] = some (.bl true)) :
 codeAny (model P w) callerA (.call (.ref fa) ⟨[.ref a],[]⟩) (fun r s'=>r = .ok (.ret (.bool true))/\OldK s₁.heap s'.heap/\s'.os = s₁.os/\AllBare s'.gens) s₁:=by
 have rv:=jT hi
 have lenV:=hi.length
 have htm:∀ b,b∈Tbs.ts.map (·.1)->s₁.heap.get? b = some (PySem.W.tabObj #[])/\K.lookup b = none/\isCodeTable s₁.heap b:=fun b hb=>by
  obtain ⟨t,h1,h2⟩:=aR.mp hb
  rw [<- h2];exact ht t h1
 have aT:a∉Tbs.ts.map (·.1):=fun z=>by
  have:=(htm a z).1
  rw [ha] at this
  cases this
 have core:∀ o:Option HO,(∀ u,o = some u->∃ xs,u = .frz { cls:=.type "list",data:=.seq vs.toArray } (.lst xs))->HOk P w (hS a o) s₁.heap->(o≠none->K.lookup a = none)->Rel K (hS a o) (fun b=>b∈Tbs.ts.map (·.1)) (.lst (ns.map .int)) (.ref a) ->
  codeAny (model P w) callerA (.call (.ref fa) ⟨[.ref a],[]⟩) (fun r s'=>r = .ok (.ret (.bool true))/\OldK s₁.heap s'.heap/\s'.os = s₁.os/\AllBare s'.gens) s₁:=by
  intro o hO hok hK hR
  have base_of:∀ {b:Addr} {x:Obj},s₁.heap.get? b = some x->hS a o b = none->(jf s₁.heap (hS a o)).get? b = some x:=fun e n=>sD e n
  have noA:∀ {b:Addr} {x:Obj},s₁.heap.get? b = some x->(∀ its n,x.data≠.seq its n)->(∀ vs,x.data≠.fields vs)->hS a o b = none:=fun {b x} e d1 d2=>by
   cases q:hS a o b with
   | none=>rfl
   | some u =>
     rcases qh q with ⟨rfl,_⟩ | ⟨z,_⟩
     . rw [ha] at e;cases e;exact absurd rfl (d1 _ _)
     . rw [(htm b z).1] at e;cases e;exact absurd rfl (d2 _)
  have nsK:∀ {b:Addr} {m:Str->Option Value},s₁.heap.Ns b m->(jf s₁.heap (hS a o)).Ns b m:=fun {b m} ⟨x,es,ep,e,d,r⟩=>⟨x,es,ep,base_of e (noA e (fun _ _ z=>by rw [d] at z;cases z) fun _ z=>by rw [d] at z;cases z),d,r⟩
  have hKb:K.In (jf s₁.heap (hS a o)):=fun b x e=>base_of (KX b x e) (by
   cases q:hS a o b with
   | none=>rfl
   | some u =>
     rcases qh q with ⟨rfl,z⟩ | ⟨z,_⟩
     . rw [hK (by rw [z];simp)] at e;cases e
     . rw [(htm b z).2.1] at e;cases e)
  have hM:Mod K mg (jf s₁.heap (hS a o)):=⟨hKb,nsK hns,⟨mb,nsK hb,hbb⟩,let ⟨mc,h1,h2⟩:=hlim;⟨mc,nsK h1,h2⟩⟩
  have hB:BM mg (jf s₁.heap (hS a o)):=by
   obtain ⟨bm,ob,b1,b2,b3,b4,b5,b6⟩:=hbm
   exact ⟨bm,ob,b1,b2,base_of b3 (noA b3 (fun _ _ z=>by rw [b6] at z;cases z) fun _ z=>by rw [b6] at z;cases z),b4,b5,b6⟩
  have e0:nu P w K mg (jf s₁.heap (hS a o)) callerA [] s₁ (hS a o):=⟨rfl,hM,fun b x e=>vz e,uJ (oO _ _),trivial,fun b hb=>absurd (show b∈([]:List Addr) from hb) (by simp),hok,.of_eq hg⟩
  have atT:∀ b,b∈Tbs.ts.map (·.1)->hS a o b = some (.tbl #[]):=fun b z=>by
   unfold hS
   rw [if_neg (fun y=>aT (by rw [<- y.1];exact z)),if_pos z]
  have sp:spF K f [.ref a] (hS a o) (fun v _=>v = .bl true) E0:=⟨fun b=>b∈Tbs.ts.map (·.1),[.lst (ns.map .int)],.bl true,fun b z=>by
   obtain ⟨t,h1,h2⟩:=aR.mp z
   exact ⟨_,atT b z,.inr ⟨⟨#[],rfl⟩,t,h1,h2⟩⟩,fun t h=>aR.mpr ⟨t,h,rfl⟩,fun t h=>⟨#[],atT _ (aR.mpr ⟨t,h,rfl⟩),trivial,fun pos cv e=>by cases e⟩,aA.one hR,hf,fun v H' _ _ r=>by unfold Rel at r;exact r⟩
  refine gJ ((F _ hKb hB).run callerA [] s₁ (hS a o) ⟨[.ref a],[]⟩ [.ref a] [.ref a] _ _ hr e0 (hbind s₁ (.ref a)) (.cons rfl .nil) sp) fun r s' h=>?_
  cases r with
  | error e=>exact False.elim h
  | ok fl =>
    cases fl with
    | next=>exact False.elim h
    | brk=>exact False.elim h
    | cont=>exact False.elim h
    | ret u =>
      obtain ⟨v,H',os,bare,un,hok',r',q⟩:=h
      have q':v = .bl true:=q
      subst q'
      obtain rfl:u = Value.bool true:=r'
      refine ⟨rfl,⟨fun b x e=>?_,fun b x e=>un.there b x e (by simp)⟩,os,bare⟩
      cases q:hS a o b with
      | none=>exact .inl (un.keep b x e q (by intro z;exact absurd (show b∈([]:List Addr) from z) (by simp)) (by simp))
      | some u =>
        rcases qh q with ⟨_,z⟩ | ⟨z,rfl⟩
        . obtain ⟨xs,rfl⟩:=hO u z
          have z2:=un.frzs b _ _ q
          obtain ⟨e1,_⟩:=hok b _ q
          obtain ⟨e2,_⟩:=hok' b _ z2
          rw [e] at e1;cases e1
          exact .inl e2
        . obtain ⟨more,y⟩:=un.tbls b _ q
          have e2:s'.heap.get? b = some { cls:=.none,data:=.fields (#[]++more) }:=hok' b _ y
          have e1:=(htm b z).1
          rw [e] at e1;cases e1
          exact .inr (.inl ⟨(htm b z).2.2,rfl,#[],more,rfl,e2⟩)
 have rl:∀ (H:Hp) (F:Addr->Prop) (ms:List Int),aA K H F (ms.map .int) (ms.map V.int):=by
  intro H F ms
  induction ms with
  | nil=>exact aA.nil
  | cons m ms ih=>exact aA.cons (cE m) ih
 have hok1:∀ o:Option HO,(∀ u,o = some u->fI P w (hS a o) s₁.heap a u)->HOk P w (hS a o) s₁.heap:=fun o ho b u e=>by
  rcases qh e with ⟨rfl,z⟩ | ⟨z,rfl⟩
  . exact ho u z
  . exact (htm b z).1
 cases hk:K.lookup a with
 | some x =>
   have e:=KX a x hk
   rw [ha] at e
   cases e
   refine core none (fun u z=>by cases z) (hok1 none fun u z=>by cases z) (fun z=>absurd rfl z) ?_
   unfold Rel
   exact ⟨a,ns.map V.int,rfl,.inr ⟨vs.toArray,_,hk,by rw [aG,lenV];exact hl,by simpa using rv⟩,rl _ _ ns⟩
 | none =>
   refine core (some (.frz { cls:=.type "list",data:=.seq vs.toArray } (.lst (ns.map V.int)))) (fun u z=>⟨_,(aX z).symm⟩) (hok1 _ fun u z=>?_) (fun _=>hk) ?_
   . cases z
     exact ⟨ha,by rw [aj];exact hl,vs,_,rv,ha⟩
   . unfold Rel
     refine ⟨a,ns.map V.int,rfl,.inl ⟨.inr ⟨{ cls:=.type "list",data:=.seq vs.toArray },?_⟩,aT⟩,rl _ _ ns⟩
     unfold hS
     rw [if_pos ⟨rfl,rfl⟩]
theorem walk_run {l:PySem.W.OpenLaw} {q:Program} {loose:List Str} {XP:(Str->Option Value)->Heap->Prop} {YP:World->Heap->Prop} {d:DefRec} {K:Params->PySem.W.Frag} {G Gd:List Fd} {gl:List D} {gn:List Str} {i:Nat} {fd:Fd} {x:Str}
 (main:∀ ns:List Int,ns.length<=63->run G gl 200 i [.lst (ns.map .int)] = some (.bl true)) (hi:Gd[i]? = some fd) (hp:fd.ps = [x])
 (hn:l.most = some 63) (hdf:d.params.defaults = []) (hY:∀ (w:World) (h:Heap),YP w h->(K w.params).In h/\∀ t∈Tbs.ts,h.get? t.1 = some (PySem.W.tabObj #[]))
 (F:∀ (w:World) (mg:Str->Option Value) (fa:Addr) (h:Heap),(K w.params).In h->h.Ns mainGlobals mg->mg d.name = some (.ref fa) ->
   ∃ (st:Stmt) (fdd:FuncData),(∀ (s:Shared) (u:Value),BindsTo s fdd ⟨[u],[]⟩ [(x,u)])/\Top w (K w.params) mg G Gd gl gn/\Dn (K w.params) mg (cm Gd) gn fd st fa fdd/\∀ t∈Tbs.ts,(K w.params).lookup t.1 = none/\∃ c,PySem.W.codeHdIn (K w.params) c t.1 = true) :
 PySem.W.WalkO q loose XP YP l.row.toRowW d [] (fun f vs=>PySem.call f vs):=by
 have hr:eJ 200 callerA:=⟨rfl,by decide,by decide⟩
 refine Att.attach_call hn hdf fun w s₀ s₁ mg mb fa o pm cd doc a vs ns TT Y ho hd hcd hmg hobj hints hlen hg=>?_
 obtain ⟨KX,tabs⟩:=hY w _ Y
 obtain ⟨st,fdd,hb,T,Dd,tc⟩:=F w mg fa _ KX TT.T.g hmg
 refine DR KX TT.T.g TT.T.b TT.T.builtins TT.T.nolimit hg TT.T.bmain hobj hints (bK hlen (by decide)) hr (fun t ht=>?_) (fun base hK hB=>?_) hb (main ns hlen)
 . obtain ⟨h1,c,h2⟩:=tc t ht
   exact ⟨tabs t ht,h1,((PySem.W.codeHd_of_K KX h2).tab (tabs t ht)).isCodeTable⟩
 . have:=((BE (P:=l.prog) (w:=w) (base:=base) T hK hB 200).1 i fd st fa fdd hi Dd).1
   rw [hp] at this
   exact this
section
theorem usS {α:Type} {P:List α->Prop} {k:Nat} (h:∀ a us,us.length = k->P (a::us)):∀ us,us.length = k+1->P us
 | [],e=>by cases e
 | a::us,e=>h a us (Nat.succ.inj e)
theorem us0 {α:Type} {P:List α->Prop} (h:P []) (us:List α) (e:us.length = 0):P us:=du.mp e▸h
variable {fd:FuncData} {ps:List Str}
theorem us1 (h:∀ a,bindArgs fd ⟨[a],[]⟩ = pure (ps.zip [a])):∀ us:List Value,us.length = 1->bindArgs fd ⟨us,[]⟩ = pure (ps.zip us) :=
 usS (P:=fun us=>bindArgs fd ⟨us,[]⟩ = pure (ps.zip (us))) fun a=>us0 (P:=fun us=>bindArgs fd ⟨a::us,[]⟩ = pure (ps.zip (a::us))) (h a)
theorem us2 (h:∀ a b,bindArgs fd ⟨[a,b],[]⟩ = pure (ps.zip [a,b])):∀ us:List Value,us.length = 2->bindArgs fd ⟨us,[]⟩ = pure (ps.zip us) :=
 usS (P:=fun us=>bindArgs fd ⟨us,[]⟩ = pure (ps.zip (us))) fun a=>usS (P:=fun us=>bindArgs fd ⟨a::us,[]⟩ = pure (ps.zip (a::us))) fun b=>us0 (P:=fun us=>bindArgs fd ⟨a::b::us,[]⟩ = pure (ps.zip (a::b::us))) (h a b)
theorem us3 (h:∀ a b c,bindArgs fd ⟨[a,b,c],[]⟩ = pure (ps.zip [a,b,c])):∀ us:List Value,us.length = 3->bindArgs fd ⟨us,[]⟩ = pure (ps.zip us) :=
 usS (P:=fun us=>bindArgs fd ⟨us,[]⟩ = pure (ps.zip (us))) fun a=>usS (P:=fun us=>bindArgs fd ⟨a::us,[]⟩ = pure (ps.zip (a::us))) fun b=>usS (P:=fun us=>bindArgs fd ⟨a::b::us,[]⟩ = pure (ps.zip (a::b::us))) fun c=>us0 (P:=fun us=>bindArgs fd ⟨a::b::c::us,[]⟩ = pure (ps.zip (a::b::c::us))) (h a b c)
theorem us4 (h:∀ a b c d,bindArgs fd ⟨[a,b,c,d],[]⟩ = pure (ps.zip [a,b,c,d])):∀ us:List Value,us.length = 4->bindArgs fd ⟨us,[]⟩ = pure (ps.zip us) :=
 usS (P:=fun us=>bindArgs fd ⟨us,[]⟩ = pure (ps.zip (us))) fun a=>usS (P:=fun us=>bindArgs fd ⟨a::us,[]⟩ = pure (ps.zip (a::us))) fun b=>usS (P:=fun us=>bindArgs fd ⟨a::b::us,[]⟩ = pure (ps.zip (a::b::us))) fun c=>usS (P:=fun us=>bindArgs fd ⟨a::b::c::us,[]⟩ = pure (ps.zip (a::b::c::us))) fun d=>us0 (P:=fun us=>bindArgs fd ⟨a::b::c::d::us,[]⟩ = pure (ps.zip (a::b::c::d::us))) (h a b c d)
end
end PP
end
section
namespace PP
open PySem L2 PyProof.Rows
variable [Tbs]
noncomputable def Gq (G:Gh) (a:Addr) (qs:List Addr):Gh:=⟨G.h,fun b=>G.R b\/b = a\/b∈qs⟩
structure Dl (K:PySem.W.Frag) (G:Gh) (F:Addr->Prop) (H:Hp) (dss:List (List D)) (a:Addr) (qs:List Addr):Prop where
 ha:H a = some (.lst (qs.map V.ref))
 fa:G.free a
 len:qs.length = dss.length
 nd:qs.Nodup
 aq:a∉qs
 at_:∀ (j:Nat) (q:Addr) (ds:List D),qs[j]? = some q->dss[j]? = some ds->G.free q/\∃ xs,H q = some (.lst xs)/\aA K H F ds xs
section
variable {K:PySem.W.Frag} {G:Gh} {F F':Addr->Prop} {H H':Hp} {σ:L2.St} {δ:Loc} {dss:List (List D)} {a:Addr} {qs:List Addr}
theorem Dl.get (h:Dl K G F H dss a qs) {j:Nat} {q:Addr} (e:qs[j]? = some q):∃ ds,dss[j]? = some ds:=by
 have:=(aE.mp e).1
 exact ⟨_,ax (by rw [<- h.len];exact this)⟩
theorem Dl.mem (h:Dl K G F H dss a qs) {q:Addr} (e:q∈qs):G.free q/\∃ xs,H q = some (.lst xs):=by
 obtain ⟨j,e⟩:=List.mem_iff_getElem?.mp e
 obtain ⟨ds,e2⟩:=h.get e
 obtain ⟨f,xs,z,_⟩:=h.at_ j q ds e e2
 exact ⟨f,xs,z⟩
theorem Dl.step (h:Dl K G F H dss a qs) (ok:Ok K (Gq G a qs) F σ H δ) (st:Step (Gq G a qs) F H F' H'):Dl K G F' H' dss a qs where
 ha:=(st.res a _ (.inr (.inl rfl)) (ok.rf a (.inr (.inl rfl))) h.ha).2
 fa:=h.fa
 len:=h.len
 nd:=h.nd
 aq:=h.aq
 at_:=fun j q ds e1 e2=>by
  obtain ⟨f,xs,e,r⟩:=h.at_ j q ds e1 e2
  have hq:q∈qs:=aO e1
  exact ⟨f,xs,(st.res q _ (.inr (.inr hq)) (ok.rf q (.inr (.inr hq))) e).2,aA.step ok.fd st ds xs r⟩
theorem iz:∀ b,G.R b->(Gq G a qs).R b:=fun b z=>.inl z
theorem Ok.pokeR {p:Addr} {zs:List V} (h:Ok K G F σ H δ) (hR:G.R p) (hg:G.h p = none) (hP:H p = some (.lst zs)) (xs:List V):Ok K G F σ (upd H p (.lst xs)) δ:=by
 have hF:F p:=h.rf p hR
 have st:Step g0 F H F (upd H p (.lst xs)):=⟨fun b o _ e n=>by rw [aV (fun z:b = p=>n (by rw [z];exact hF))];exact e,fun b z=>.inl z,fun _ _ r _ _=>r.elim,fun b ps e=>⟨ps,by rw [aV (fun w:b = p=>by rw [w,hP] at e;cases e)];exact e⟩⟩
 refine ⟨⟨fun b o t e=>?_,fun b ps e=>?_⟩,fun b z=>?_,h.rf,fun b z=>?_,h.tf,h.tabs.keep fun b o n e=>?_,h.len,fun j s e=>?_,h.apart⟩
 . rw [aV (fun z:b = p=>by rw [z,hg] at e;cases e)]
   exact h.same.nt b o t e
 . rw [aV (fun z:b = p=>by rw [z,hg] at e;cases e)]
   exact h.same.tb b ps e
 . by_cases hb:b = p
   . rw [hb];exact ⟨_,bt,.inl trivial⟩
   . rw [aV hb];exact h.fd b z
 . by_cases hb:b = p
   . rw [hb];exact ⟨_,bt,trivial⟩
   . rw [aV hb];exact h.rl b z
 . rw [aV (fun w:b = p=>by rw [w,hP] at e;cases e;exact n trivial)]
   exact e
 . exact dh.stay0 h.fd st (fun a u _ f g ea=>⟨f,by rw [aV (fun z:a = p=>g.2 (by rw [z];exact hR))];exact ea⟩) (h.sl j s e)
theorem Dl.poke (h:Dl K G F H dss a qs) (ok:Ok K (Gq G a qs) F σ H δ) {j:Nat} {q:Addr} {es:List D} {ys:List V} (e:qs[j]? = some q) (r:aA K H F es ys) :
 Ok K (Gq G a qs) F σ (upd H q (.lst ys)) δ/\Dl K G F (upd H q (.lst ys)) (dss.set j es) a qs/\Step G F H F (upd H q (.lst ys)):=by
 have hq:q∈qs:=aO e
 obtain ⟨ds,e2⟩:=h.get e
 obtain ⟨f,xs,ex,rx⟩:=h.at_ j q ds e e2
 have hF:F q:=ok.rf q (.inr (.inr hq))
 have st:Step G F H F (upd H q (.lst ys)):=⟨fun b o _ z n=>by rw [aV (fun w:b = q=>n (by rw [w];exact hF))];exact z,fun b z=>.inl z,fun b o rr z e=>⟨z,by rw [aV (fun w:b = q=>f.2 (by rw [<- w];exact rr))];exact e⟩,fun b ps e=>⟨ps,by rw [aV (fun w:b = q=>by rw [w,ex] at e;cases e)];exact e⟩⟩
 refine ⟨ok.pokeR (.inr (.inr hq)) f.1 ex ys,⟨?_,h.fa,by rw [bb];exact h.len,h.nd,h.aq,fun j' q' ds' e1' e2'=>?_⟩,st⟩
 . rw [aV (fun w:a = q=>h.aq (by rw [w];exact hq))];exact h.ha
 . by_cases hj:j' = j
   . subst hj
     rw [e] at e1';cases e1'
     rw [bH (aE.mp e2).1] at e2';cases e2'
     exact ⟨f,ys,bt,aA.step ok.fd st es ys r⟩
   . rw [aK (Ne.symm hj)] at e2'
     obtain ⟨f',xs',ex',rx'⟩:=h.at_ j' q' ds' e1' e2'
     have hne:q'≠q:=fun w=>hj ((List.getElem?_inj (aE.mp e1').1 h.nd).mp (by rw [e1',e,w]))
     exact ⟨f',xs',by rw [aV hne];exact ex',aA.step ok.fd st ds' xs' rx'⟩
theorem aA.of:∀ {ds:List D} {xs:List V},xs.length = ds.length->(∀ (j:Nat) d v,ds[j]? = some d->xs[j]? = some v->Rel K H F d v)->aA K H F ds xs
 | [],[],_,_=>aA.nil
 | [],_::_,l,_=>nomatch l
 | _::_,[],l,_=>nomatch l
 | d::ds,x::xs,l,h=>aA.cons (h 0 d x rfl rfl) (aA.of (Nat.succ.inj l) fun j d v e1 e2=>h (j+1) d v (by simpa using e1) (by simpa using e2))
theorem Dl.rel (h:Dl K G F H dss a qs) (fd:FD F H):Rel K H (fun b=>F b/\¬ (b = a\/b∈qs)) (.lst (dss.map D.lst)) (.ref a):=by
 unfold Rel
 refine ⟨a,_,rfl,.inl ⟨.inl h.ha,fun z=>z.2 (.inl rfl)⟩,aA.of (by rw [aj,aj,h.len]) fun j d v e1 e2=>?_⟩
 rw [aS,aL] at e1 e2
 obtain ⟨ds,e1,rfl⟩:=e1
 obtain ⟨q,e2,rfl⟩:=e2
 obtain ⟨f,xs,ex,r⟩:=h.at_ j q ds e2 e1
 unfold Rel
 exact ⟨q,xs,rfl,.inl ⟨.inl ex,fun z=>z.2 (.inr (aO e2))⟩,aA.less fd (fun b z=>z.1) r⟩
theorem set_same {α:Type} {l:List α} {i:Nat} {x:α} (e:l[i]? = some x):l.set i x = l:=by
 obtain ⟨h,e⟩:=aE.mp e
 subst e
 exact List.set_getElem_self h
theorem Ok.lend (ok:Ok K (Gq G a qs) F σ H δ) (h:Dl K G F H dss a qs) {i:Nat} (e:σ[i]? = some (some (.ref a))):Ok K G (fun b=>F b/\¬ (b = a\/b∈qs)) σ H (δ.set i (.val (.lst (dss.map D.lst)))):=by
 have hs:∀ b,(F b/\¬ (b = a\/b∈qs))->F b:=fun b z=>z.1
 have nr:∀ b,(b = a\/b∈qs)->¬ G.R b/\∃ xs,H b = some (.lst xs):=fun b z=>by
  rcases z with z | z
  . subst z;exact ⟨h.fa.2,_,h.ha⟩
  . obtain ⟨f,xs,e⟩:=h.mem z
    exact ⟨f.2,xs,e⟩
 have ok':Ok K G (fun b=>F b/\¬ (b = a\/b∈qs)) σ H δ:=by
  refine ⟨ok.same,fun b z=>ok.fd b z.1,fun b z=>⟨ok.rf b (.inl z),fun w=>(nr b w).1 z⟩,fun b z=>ok.rl b (.inl z),fun t ht=>⟨ok.tf t ht,fun w=>?_⟩,ok.tabs,ok.len,fun j s e=>?_,ok.apart⟩
  . obtain ⟨ps,e2,_⟩:=ok.tabs t ht
    obtain ⟨_,xs,e3⟩:=nr t.1 w
    rw [e2] at e3;cases e3
  . have q0:dh K G F H σ[j]? s:=dh.free (G:=Gq G a qs) (G':=G) (fun a _ g=>⟨g.1,fun z=>g.2 (.inl z)⟩) (ok.sl j s e)
    refine dh.less ok.fd hs (fun a' o ea=>?_) q0
    obtain ⟨a2,u,d,e1,f1,g1,_⟩:=dh.ow (ok.sl j s e) o
    rw [ea] at e1
    cases e1
    exact ⟨f1,fun z=>g1.2 (.inr z)⟩
 have r:=ok'.set (i:=i) (by rw [ok.len];exact (aE.mp e).1) (h.rel ok.fd)
 rw [set_same e] at r
 exact r
theorem Ok.back {F2:Addr->Prop} {δ2:Loc} {d:D} {v:V} {G2:Gh} (ok:Ok K (Gq G a qs) F σ H δ) (h:Dl K G F H dss a qs) (sm:Sim H H') (ok2:Ok K G2 F2 σ H' δ2) (l:lf d = true) (r:Rel K H' F2 d v) :
 Ok K (Gq G a qs) F σ H' δ/\Dl K G F H' dss a qs/\Step G F H F H'/\Rel K H' F d v:=by
 obtain ⟨o1,s1⟩:=ok.call sm ok2.tabs
 exact ⟨o1,h.step ok s1,s1.sub iz,Rel.free o1.fd d v l r⟩
theorem Ok.three (ok:Ok K G F σ H δ) {q0 q1 a:Addr} {H1 H2:Hp} (e0:H q0 = none) (h1:H1 = upd H q0 (.lst [])) (e1:H1 q1 = none) (h2:H2 = upd H1 q1 (.lst [])) (e4:H2 a = none) :
 ∃ F',Ok K (Gq G a [q0,q1]) F' σ (upd H2 a (.lst [.ref q0,.ref q1])) δ/\Dl K G F' (upd H2 a (.lst [.ref q0,.ref q1])) [[],[]] a [q0,q1]/\Step G F H F' (upd H2 a (.lst [.ref q0,.ref q1])):=by
 subst h1 h2
 obtain ⟨o0,s0⟩:=ok.enter e0 []
 obtain ⟨o1,s1⟩:=o0.enter e1 []
 obtain ⟨o4,s4⟩:=o1.enter e4 [.ref q0,.ref q1]
 have n:∀ {p q:Addr} {M:Hp} {xs:List V},upd M q (.lst xs) p = none->p≠q/\M p = none:=fun {p q M xs} e=>by
  by_cases h:p = q
  . subst h;rw [bt] at e;cases e
  . rw [aV h] at e;exact ⟨h,e⟩
 obtain ⟨n1,e1'⟩:=n e1
 obtain ⟨n9,e4''⟩:=n e4
 obtain ⟨n10,e4w⟩:=n e4''
 have eG:((G.and q0).and q1).and a = Gq G a [q0,q1]:=by
  unfold Gh.and Gq
  congr 1
  funext b
  apply propext
  simp only [aQ,fy,or_false]
  constructor
  . rintro (((h | h) | h) | h)
    . exact .inl h
    . exact .inr (.inr (.inl h))
    . exact .inr (.inr (.inr h))
    . exact .inr (.inl h)
  . rintro (h | h | h | h)
    . exact .inl (.inl (.inl h))
    . exact .inr h
    . exact .inl (.inl (.inr h))
    . exact .inl (.inr h)
 rw [eG] at o4
 refine ⟨_,o4,⟨bt,ok.free e4w,rfl,by simp [n1.symm],by simp [n9,n10],fun j q ds e1 e2=>?_⟩,(s0.trans (s1.sub fun b z=>.inl z)).trans (s4.sub fun b z=>.inl (.inl z))⟩
 cases j with
 | zero=>cases e1;cases e2;exact ⟨ok.free e0,[],by rw [aV n10.symm,aV n1.symm,bt],aA.nil⟩
 | succ j =>
   cases j with
   | zero=>cases e1;cases e2;exact ⟨ok.free e1',[],by rw [aV n9.symm,bt],aA.nil⟩
   | succ j=>cases e1
end
end PP
end
section
namespace PP
open PySem L2 PyProof.Rows
variable [Tbs]
inductive O2 where
 | nx (δ:Loc) (dss:List (List D)) | rt (d:D) (δ:Loc)
mutual
inductive T where
 | asg (j:Nat) (e:E) | lasg (j:Nat) (e:E) | app (a e:E) | ifs (c:E) (x y:Ts) | for_ (j:Nat) (src:It) (b:Ts) | clo (wf:Nat) (es:Es) | rest (ss:Ss)
inductive Ts where
 | nil | cons (t:T) (ts:Ts)
end
noncomputable def DP (i:Nat) (δ:Loc) (dss:List (List D)):Loc:=δ.set i (.val (.lst (dss.map D.lst)))
noncomputable def BD (cx:Cl) (a e:E) (δ:Loc) (dss:List (List D)):Option (Loc × List (List D)) :=
 (evE cx a δ).bind fun p=>(match p.1 with | .int n=>some n | _=>none).bind fun n=>(evE cx e p.2).bind fun q=>(ixN dss.length n).bind fun m=>(dss[m]?).bind fun ds=>if ds.length < sizeLine then some (q.2,dss.set m (ds++[q.1])) else none
noncomputable def Bh (f:D->Loc->List (List D)->Option O2):List D->Loc->List (List D)->Option O2
 | [],δ,dss=>some (.nx δ dss)
 | x::xs,δ,dss=>match f x δ dss with
   | some (.nx δ1 dss1)=>Bh f xs δ1 dss1
   | _=>none
noncomputable def nx2 (p:Loc × List (List D)):Option O2:=some (.nx p.1 p.2)
mutual
noncomputable def ev2 (cx:Cl) (cl:List (List D)->List D->Option (List (List D))) (i:Nat):T->Loc->List (List D)->Option O2
 | .asg j e,δ,dss=>(evE cx e δ).bind fun p=>if j≠i/\j < p.2.length then some (.nx (p.2.set j (.val p.1)) dss) else none
 | .lasg j e,δ,dss=>(evE cx e (DP i δ dss)).bind fun p=>if j≠i/\j < δ.length/\lf p.1 = true then some (.nx (δ.set j (.val p.1)) dss) else none
 | .app a e,δ,dss=>(BD cx a e δ dss).bind nx2
 | .ifs c x y,δ,dss=>(evT cx c δ).bind fun p=>if p.1 = true then fV cx cl i x p.2 dss else fV cx cl i y p.2 dss
 | .for_ j src b,δ,dss=>(evI cx src δ).bind fun p=>Bh (fun x δ dss=>if j≠i/\j < δ.length then fV cx cl i b (δ.set j (.val x)) dss else none) p.1 p.2 dss
 | .clo wf es,δ,dss=>(gY cx es δ).bind fun p=>if (cx.call wf [.tup []]).isSome = true then (cl dss p.1).bind fun dss'=>some (.nx p.2 dss') else none
 | .rest ss,δ,dss=>match dO cx ss δ with
   | some (.rt d δ')=>some (.rt d δ')
   | _=>none
noncomputable def fV (cx:Cl) (cl:List (List D)->List D->Option (List (List D))) (i:Nat):Ts->Loc->List (List D)->Option O2
 | .nil,δ,dss=>some (.nx δ dss)
 | .cons t ts,δ,dss=>match ev2 cx cl i t δ dss with
   | some (.nx δ1 dss1)=>fV cx cl i ts δ1 dss1
   | o=>o
end
noncomputable def wj (K:PySem.W.Frag) (G:Gh) (F:Addr->Prop) (H:Hp) (i:Nat) (a:Addr) (qs:List Addr) (o:O2) (E:Ends):Prop:=match o with
 | .nx δ' dss'=>∀ σ' H' F',Step G F H F' H'->Ok K (Gq G a qs) F' σ' H' δ'->Dl K G F' H' dss' a qs->σ'[i]? = some (some (.ref a))->E.nx σ' H'
 | .rt d δ'=>∀ v σ' H' F',Step G F H F' H'->Ok K (Gq G a qs) F' σ' H' δ'->Rel K H' F' d v->E.rt v H'
noncomputable def t2 (K:PySem.W.Frag) (i:Nat) (ev:Loc->List (List D)->Option O2):TS:=fun E σ H=>∃ G F δ dss a qs o,Ok K (Gq G a qs) F σ H δ/\Dl K G F H dss a qs/\σ[i]? = some (some (.ref a))/\ev δ dss = some o/\wj K G F H i a qs o E
theorem wj.step {K:PySem.W.Frag} {G:Gh} {F F1:Addr->Prop} {H H1:Hp} {i:Nat} {a:Addr} {qs:List Addr} {o:O2} {E:Ends} (st:Step G F H F1 H1) (h:wj K G F H i a qs o E):wj K G F1 H1 i a qs o E:=by
 cases o with
 | nx δ dss=>exact fun σ' H' F' s k=>h σ' H' F' (st.trans s) k
 | rt d δ=>exact fun v σ' H' F' s k r=>h v σ' H' F' (st.trans s) k r
theorem pO {σ:L2.St} {i j:Nat} {v:V} {u:Option V} (h:j≠i) (e:σ[i]? = some (some v)):(σ.set j u)[i]? = some (some v):=by
 rw [aK h]
 exact e
section
variable {X:Cx} {c:Ck} {cx:Cl} {k:Nat} {i:Nat} {cl:List (List D)->List D->Option (List (List D))}
theorem GI (C:Cok X c cx k) {j:Nat} {e:E} {t:Str} {y:Expr} {pos p2:Pos} (h:eX c j t = true) (hy:ckE c e y = true) (n:(!bG e) = true) (nc:(!fj y) = true):PS X (.Assign [.Name t p2] y pos) (t2 X.K i (ev2 cx cl i (.asg j e))):=by
 obtain ⟨n1,n2,n3⟩:=C.to h
 have nc':fj y = false:=by simpa using nc
 refine PS.imp (pW C.nd' n1 n2 (dt e X c _ C hy) (gX (bZ hy) nc' _ _ _) n3) fun E σ H ⟨G,F,δ,dss,a,qs,o,ok,dl,es,ev,post⟩=>?_
 obtain ⟨⟨d,δ1⟩,e1,ev⟩:=af.mp ev
 dsimp only at ev
 split at ev
 . rename_i hj
   cases ev
   exact ⟨_,F,δ,d,δ1,ok,e1,fun v H1 F1 st sm ok1 r=>post _ H1 F1 (st.sub iz) (ok1.set hj.2 (da n r)) (dl.step ok st) (pO hj.1 es)⟩
 . cases ev
theorem Df (C:Cok X c cx k) {j:Nat} {e:E} {t:Str} {y:Expr} {pos p2:Pos} (h:eX c j t = true) (hy:ckE c e y = true) (n:(!bG e) = true) (nc:(!fj y) = true) (hn:np e = true):PS X (.Assign [.Name t p2] y pos) (t2 X.K i (ev2 cx cl i (.lasg j e))):=by
 obtain ⟨n1,n2,n3⟩:=C.to h
 have nc':fj y = false:=by simpa using nc
 refine PS.imp (pW C.nd' n1 n2 (dt e X c _ C hy) (gX (bZ hy) nc' _ _ _) n3) fun E σ H ⟨G,F,δ,dss,a,qs,o,ok,dl,es,ev,post⟩=>?_
 obtain ⟨⟨d,δ1⟩,e1,ev⟩:=af.mp ev
 dsimp only at ev
 split at ev
 . rename_i hj
   cases ev
   refine ⟨G,_,_,d,δ1,ok.lend dl es,e1,fun v H1 F1 st sm ok1 r=>?_⟩
   obtain ⟨o1,o2,o3,o4⟩:=ok.back dl (sm hn) ok1 hj.2.2 (da n r)
   exact post _ H1 F o3 (o1.set hj.2.1 o4) o2 (pO hj.1 es)
 . cases ev
theorem ix2 {K:PySem.W.Frag} {G:Gh} {F:Addr->Prop} {H:Hp} {dss:List (List D)} {a:Addr} {qs:List Addr} (dl:Dl K G F H dss a qs) {n:Int} {m:Nat} (e:ixN dss.length n = some m):∃ q,qs[m]? = some q/\atI (qs.map V.ref) n = some (.ref q):=by
 have hm:m < qs.length:=by rw [dl.len];exact (vJ e).2.1
 refine ⟨_,ax hm,?_⟩
 unfold atI
 rw [aj,dl.len,e]
 show (qs.map V.ref)[m]? = _
 rw [aS,ax hm]
 rfl
theorem Bd {d:D} {n:Int} (h:(match d with | .int n=>some n | _=>none) = some n):d = .int n:=by
 cases d<;>first | (cases h;rfl) | cases h
theorem GJ (C:Cok X c cx k) {ea e:E} {x:Str} {y z:Expr} {p0 p1 p2 ap cp:Pos} (hx:gk c i x = true) (hl:ap.endLine = cp.line) (hy:ckE c ea y = true) (hz:ckE c e z = true) (n:(!bG e) = true) :
 PS X (.Expr (.Call (.Attribute (.Subscript (.Name x p0) y p1) "append" ap) [z] [] cp) p2) (t2 X.K i fun δ dss=>(BD cx ea e δ dss).bind nx2):=by
 obtain ⟨n1,n2,n3,n4⟩:=C.name hx
 have hs:=cJ (bZ hz) [] X.env
 have hA:PA X [z] (tEs X.K cx (.cons e .nil)):=lX (by simp [npS]) (dt e X c _ C hz) pM hs
 refine PS.imp (pX (EF PySem.F.plainAttrs_list PySem.F.slot_list_append PySem.F.type_list_append kg (EE AW (je n1 n2 n3 n4) (dt ea X c _ C hy) (vN (bZ hy))) hA rfl (Kd hz) (by simpa using hl) hs rfl)) fun E σ H ⟨G,F,δ,dss,a,qs,o,ok,dl,es,ev,post⟩=>?_
 obtain ⟨⟨δ2,dss2⟩,e8,e9⟩:=af.mp ev
 cases e9
 clear ev
 obtain ⟨⟨d1,δ1⟩,e1,ev⟩:=af.mp e8
 obtain ⟨m,e2,ev⟩:=af.mp ev
 have e2:=Bd e2
 dsimp only at e2
 subst e2
 obtain ⟨⟨d,δ3⟩,e3,ev⟩:=af.mp ev
 obtain ⟨j,e4,ev⟩:=af.mp ev
 obtain ⟨ds,e5,ev⟩:=af.mp ev
 dsimp only at ev e3
 split at ev
 . rename_i hz'
   cases ev
   refine ⟨.ref a,es,_,F,δ,_,δ1,ok,e1,fun v H1 F1 st1 sm1 ok1 r1=>?_⟩
   have dl1:=dl.step ok st1
   obtain ⟨q,eq,ea'⟩:=ix2 dl1 e4
   obtain ⟨f,xs,ex,rx⟩:=dl1.at_ j q ds eq e5
   have r1':=r1.b.int
   subst r1'
   refine .inl ⟨a,_,m,.ref q,rfl,rfl,.inl (.inl dl1.ha),ea',.inl ⟨rfl,xs,.inl (.inl ex)⟩,_,F1,δ1,[d],δ2,ok1,by simp [gY,e3],fun vs H2 F2 st2 sm2 ok2 r2=>?_⟩
   obtain ⟨d',ds',v,vs',ed,rfl,rv,rn⟩:=r2
   cases ed
   obtain ⟨_,rfl⟩:=rn
   have rv':=da n rv
   have dl2:=dl1.step ok1 st2
   obtain ⟨f2,xs2,ex2,rx2⟩:=dl2.at_ j q ds eq e5
   obtain ⟨o1,o2,o3⟩:=dl2.poke ok2 eq (rx2.append (aA.one rv'))
   exact ⟨q,xs2,v,rfl,rfl,ex2,by rw [rx2.length];exact hz',post σ _ F2 (((st1.trans st2).sub iz).trans o3) o1 o2 es⟩
 . cases ev
theorem GF (C:Cok X c cx k) {e:E} {x y:Ts} {t:Expr} {ys zs:List Stmt} {pos:Pos} (ht:ckE c e t = true) (hx:PSs X ys (t2 X.K i (fV cx cl i x))) (hy:PSs X zs (t2 X.K i (fV cx cl i y))):PS X (.If t ys zs pos) (t2 X.K i (ev2 cx cl i (.ifs e x y))):=by
 refine PS.imp (ED (jX e X c _ C ht) hx hy) fun E σ H ⟨G,F,δ,dss,a,qs,o,ok,dl,es,ev,post⟩=>?_
 unfold ev2 at ev
 obtain ⟨⟨b,δ1⟩,e1,e2⟩:=af.mp ev
 dsimp only at e2
 refine ⟨_,F,δ,b,δ1,ok,e1,fun H1 F1 st sm ok1=>?_⟩
 cases b with
 | true=>exact ⟨G,F1,δ1,dss,a,qs,o,ok1,dl.step ok st,es,e2,post.step (st.sub iz)⟩
 | false=>exact ⟨G,F1,δ1,dss,a,qs,o,ok1,dl.step ok st,es,e2,post.step (st.sub iz)⟩
theorem GD:PSs X [] (t2 X.K i (fV cx cl i .nil)):=PSs.imp vg fun E σ H ⟨G,F,δ,dss,a,qs,o,ok,dl,es,ev,post⟩=>by
 unfold fV at ev
 cases ev
 exact post σ H F Step.refl ok dl es
theorem Dg {t:T} {ts:Ts} {y:Stmt} {ys:List Stmt} (h1:PS X y (t2 X.K i (ev2 cx cl i t))) (h2:PSs X ys (t2 X.K i (fV cx cl i ts))):PSs X (y::ys) (t2 X.K i (fV cx cl i (.cons t ts))):=by
 refine PSs.imp (jA h1 h2) fun E σ H ⟨G,F,δ,dss,a,qs,o,ok,dl,es,ev,post⟩=>?_
 unfold fV at ev
 cases e:ev2 cx cl i t δ dss with
 | none=>rw [e] at ev;cases ev
 | some o1 =>
   rw [e] at ev
   cases o1 with
   | nx δ1 dss1=>exact ⟨G,F,δ,dss,a,qs,_,ok,dl,es,e,fun σ' H' F' st ok' dl' es'=>⟨G,F',δ1,dss1,a,qs,o,ok',dl',es',ev,post.step st⟩⟩
   | rt d δ1=>cases ev;exact ⟨G,F,δ,dss,a,qs,_,ok,dl,es,e,post⟩
theorem De (C:Cok X c cx k) (hS:X.env.scope = c.sc) (hB:X.env.blockKind = .function) {ss:Ss} {xs:List Stmt} (h:dX c ss xs = true):PSs X xs (t2 X.K i (fV cx cl i (.cons (.rest ss) .nil))):=by
 refine PSs.imp (ou C hS hB ss xs h) fun E σ H ⟨G,F,δ,dss,a,qs,o,ok,dl,es,ev,post⟩=>?_
 unfold fV ev2 at ev
 cases e:dO cx ss δ with
 | none=>rw [e] at ev;cases ev
 | some o1 =>
   rw [e] at ev
   cases o1 with
   | rt d δ1 =>
     cases ev
     exact ⟨Gq G a qs,F,δ,_,ok,e,fun v σ' H' F' st ok' r=>post v σ' H' F' (st.sub iz) ok' r⟩
   | _=>cases ev
theorem GG (C:Cok X c cx k) {j:Nat} {src:It} {b:Ts} {t:Str} {p:Pos} {it:Expr} {ys:List Stmt} {pos:Pos} (h:eX c j t = true) (hI:ckI c src it = true) (hb:PSs X ys (t2 X.K i (fV cx cl i b))) :
 PS X (.For (.Name t p) it ys [] pos) (t2 X.K i (ev2 cx cl i (.for_ j src b))):=by
 obtain ⟨n1,n2,n3⟩:=C.to h
 have hp:PassesOwn (model X.prog X.w) X.A X.env X.xe:=by rw [C.xe];exact wm
 refine PS.imp (Af hp C.calm (Gv src X c _ _ C hI) (lx C.nd' n1 n2 n3) hb fun v=>qw hI _ v) fun E σ H ⟨G,F,δ,dss,a,qs,o,ok,dl,es,ev,post⟩=>?_
 unfold ev2 at ev
 obtain ⟨⟨ds,δ1⟩,e1,e2⟩:=af.mp ev
 clear ev
 dsimp only at e2
 generalize hf:(fun (x:D) (δ:Loc) (dss:List (List D))=>if j≠i/\j < δ.length then fV cx cl i b (δ.set j (.val x)) dss else none) = f at e2
 refine ⟨_,F,δ,ds,δ1,ok,e1,fun J H1 F1 st sm ok1 wk=>?_⟩
 refine ⟨fun n m σ' H'=>∃ F' δ' dss',m = ds.length - n/\n<=ds.length/\Step G F1 H1 F' H'/\Ok X.K (Gq G a qs) F' σ' H' δ'/\Dl X.K G F' H' dss' a qs/\σ'[i]? = some (some (.ref a))/\Bh f (ds.drop n) δ' dss' = some o,⟨_,F1,δ1,dss,rfl,bA _,Step.refl,ok1,dl.step ok st,es,e2⟩,?_⟩
 rintro n m σ' H' ⟨F',δ',dss',rfl,hn,st',ok',dl',es',ev'⟩
 by_cases hlt:n < ds.length
 . right
   obtain ⟨d,hd⟩:∃ d,ds[n]? = some d:=⟨ds[n],by simp [hlt]⟩
   obtain ⟨go,yl⟩:=(wk G F' H' st' ok'.fd n).1 d hd
   have edr:ds.drop n = d::ds.drop (n+1):=by
    rw [en hlt]
    congr 1
    rw [ax hlt] at hd
    exact aX hd
   rw [edr] at ev'
   unfold Bh at ev'
   cases ef:f d δ' dss' with
   | none=>rw [ef] at ev';cases ev'
   | some o3 =>
     rw [ef] at ev'
     cases o3 with
     | rt _ _=>cases ev'
     | nx δ3 dss3 =>
       dsimp only at ev'
       rw [<- hf] at ef
       dsimp only at ef
       split at ef
       . rename_i hj
         refine ⟨go,fun σ2 H2=>∃ F2,Step G F1 H1 F2 H2/\Ok X.K (Gq G a qs) F2 σ2 H2 δ3/\Dl X.K G F2 H2 dss3 a qs/\σ2[i]? = some (some (.ref a)),fun σ2 H2 ⟨F2,z1,z2,z3,z4⟩=>⟨ds.length - (n+1),by omega,F2,δ3,dss3,rfl,hlt,z1,z2,z3,z4,ev'⟩,fun x H3 hy=>?_⟩
         obtain ⟨e3,rx⟩:=yl x H3 hy
         subst e3
         exact ⟨G,F',δ'.set j (.val d),dss',a,qs,.nx δ3 dss3,ok'.set hj.2 rx,dl',pO hj.1 es',ef,fun σ4 H4 F4 s4 k4 l4 e4=>⟨F4,st'.trans s4,k4,l4,e4⟩⟩
       . cases ef
 . left
   have hi':n = ds.length:=by omega
   subst hi'
   refine ⟨(wk G F' H' st' ok'.fd ds.length).2 rfl,?_⟩
   rw [lJ] at ev'
   cases ev'
   exact post σ' H' F' ((st.sub iz).trans st') ok' dl' es'
end
end PP
end
section
namespace PP
open PySem L2 PyProof.Rows
variable [Tbs]
noncomputable def xR (H:Hp) (a:Addr) (qs:List Addr):Hp:=fun b=>if b = a\/b∈qs then none else H b
theorem vW {H:Hp} {a b:Addr} {qs:List Addr} (h:b = a\/b∈qs):xR H a qs b = none:=if_pos h
theorem mV {H:Hp} {a b:Addr} {qs:List Addr} (h:¬ (b = a\/b∈qs)):xR H a qs b = H b:=if_neg h
section
variable {K:PySem.W.Frag} {G:Gh} {F F':Addr->Prop} {H H':Hp} {σ:L2.St} {δ:Loc} {dss dss':List (List D)} {a:Addr} {qs:List Addr}
theorem Dl.in_lst (h:Dl K G F H dss a qs) {b:Addr} (z:b = a\/b∈qs):∃ xs,H b = some (.lst xs):=by
 rcases z with rfl | z
 . exact ⟨_,h.ha⟩
 . exact (h.mem z).2
theorem Dl.in_free (h:Dl K G F H dss a qs) {b:Addr} (z:b = a\/b∈qs):G.free b:=by
 rcases z with rfl | z
 . exact h.fa
 . exact (h.mem z).1
theorem Dl.call2 (dl:Dl K G F H dss a qs) (ok:Ok K (Gq G a qs) F σ H δ) (k:Sim (xR H a qs) H') (t:iC H') (dl':Dl K G F H' dss' a qs):Ok K (Gq G a qs) F σ H' δ/\Step G F H F H':=by
 have nt:∀ b o,¬ (b = a\/b∈qs)->NT o->H b = some o->H' b = some o:=fun b o n z e=>k.nt b o z (by rw [mV n];exact e)
 have tb:∀ b ps,H b = some (.tbl ps)->∃ qs',H' b = some (.tbl qs'):=fun b ps e=>k.tb b ps (by
  rw [mV]
  . exact e
  . intro z
    obtain ⟨xs,e2⟩:=dl.in_lst z
    rw [e] at e2
    cases e2)
 have inF:∀ b,(b = a\/b∈qs)->F b:=fun b z=>ok.rf b (.inr z)
 have st:Step G F H F H':=⟨fun b o z e n=>nt b o (fun w=>n (inF b w)) z e,fun b z=>.inl z,fun b o r f e=>⟨f,by
  obtain ⟨o2,e2,m⟩:=ok.rl b (.inl r)
  rw [e] at e2
  cases e2
  exact nt b o (fun w=>(dl.in_free w).2 r) m.nt e⟩,tb⟩
 have st2:Step g0 F H F H':=⟨st.keep,st.grow,fun _ _ r _ _=>r.elim,tb⟩
 refine ⟨⟨⟨fun b o z e=>?_,fun b ps e=>?_⟩,fun b z=>?_,ok.rf,fun b z=>?_,ok.tf,t,ok.len,fun i s e=>?_,ok.apart⟩,st⟩
 . refine nt b o (fun w=>?_) z (ok.same.nt b o z e)
   have:=(dl.in_free w).1
   have e':G.h b = some o:=e
   rw [e'] at this
   cases this
 . obtain ⟨ps',e2⟩:=ok.same.tb b ps e
   exact tb b ps' e2
 . by_cases hb:b = a\/b∈qs
   . obtain ⟨xs,e⟩:=dl'.in_lst hb
     exact ⟨_,e,.inl trivial⟩
   . obtain ⟨o,e,m⟩:=ok.fd b z
     rcases m with m | ⟨⟨ps,rfl⟩,t⟩
     . exact ⟨o,nt b o hb m.nt e,.inl m⟩
     . obtain ⟨ps',e2⟩:=tb b ps e
       exact ⟨_,e2,.inr ⟨⟨ps',rfl⟩,t⟩⟩
 . by_cases hb:b = a\/b∈qs
   . obtain ⟨xs,e⟩:=dl'.in_lst hb
     exact ⟨_,e,trivial⟩
   . obtain ⟨o,e,m⟩:=ok.rl b z
     exact ⟨o,nt b o hb m.nt e,m⟩
 . cases eq:ow s with
   | true =>
     obtain ⟨c,w,d,e5,f5,g5,e7,r7,_⟩:=dh.ow (ok.sl i s e) eq
     refine dh.stay0 ok.fd st2 (fun b v e2 f1 f2 f3=>⟨f1,?_⟩) (ok.sl i s e)
     rw [e2] at e5
     cases e5
     rw [f3] at e7
     cases e7
     exact nt _ _ (fun z=>f2.2 (.inr z)) r7.mo.1.nt f3
   | false =>
     have q:=ok.sl i s e
     cases s with
     | no=>trivial
     | fnc n cs =>
       obtain ⟨v,e,r⟩:=q
       exact ⟨v,e,r.keep (lB ok.fd st.keep)⟩
     | val d =>
       obtain ⟨v,e,r⟩:=q
       exact ⟨v,e,Rel.step ok.fd st2 d v r⟩
     | own _=>cases eq
     | odc _ _=>cases eq
end
noncomputable def sp2 (K:PySem.W.Frag) (cl:List (List D)->List D->Option (List (List D))):Sp:=fun vs H Q _=>∃ G F dss ds dss' a qs ws,vs = .ref a::ws/\FD F H/\TF F/\iC H/\Dl K G F H dss a qs/\(∀ b,(b = a\/b∈qs)->F b)/\aA K H F ds ws/\cl dss ds = some dss' /\
 ∀ H',Sim (xR H a qs) H'->iC H'->Dl K G F H' dss' a qs->Q .non H'
section
variable {X:Cx} {c:Ck} {cx:Cl} {k:Nat} {i:Nat} {cl:List (List D)->List D->Option (List (List D))}
theorem GH (C:Cok X c cx k) {wf:Nat} {es:Es} {f x:Str} {a:Addr} {fd:FuncData} {ps:List Str} {zs:List Expr} {p px cp p2:Pos} (fn:fN X.prog X.w X.K X.mg X.base CX0 1 a fd ps (sp2 X.K cl)) (hm:X.mg f = some (.ref a)) (hk:PySem.W.keepIn X.K (.ref a) = true) (hb:Binds X.K fd ps [])
 (hf:eC c f = true) (hx:gk c i x = true) (hz:gI c es zs = true) (n:ir es = true):PS X (.Expr (.Call (.Name f p) (.Name x px::zs) [] cp) p2) (t2 X.K i (ev2 cx cl i (.clo wf es))):=by
 cases k with
 | zero =>
   intro pins s σ H E I h
   obtain ⟨G,F,δ,dss,a,qs,o,ok,dl,es,ev,post⟩:=h
   unfold ev2 at ev
   obtain ⟨_,_,ev2⟩:=af.mp ev
   rw [C.pos rfl] at ev2
   cases ev2
 | succ k =>
   obtain ⟨g1,g2,g3⟩:=C.global hf
   obtain ⟨n1,n2,n3,n4⟩:=C.name hx
   have hA:PA X (.Name x px::zs) (uS (Gb i) (tEs X.K cx es)):=eS (je n1 n2 n3 n4) (eQ es X c zs C hz (gR n)) rfl
   refine PS.imp (pX (vj (fn.mono (Nat.succ_le_succ (bA k))) C.room g1 hm hk hb .nil EG hA g2 rfl (ig hz))) fun E σ H ⟨G,F,δ,dss,a,qs,o,ok,dl,es,ev,post⟩=>?_
   unfold ev2 at ev
   obtain ⟨⟨ds,δ1⟩,e1,e2⟩:=af.mp ev
   dsimp only at e2
   split at e2
   . obtain ⟨dss',e3,e4⟩:=af.mp e2
     cases e4
     refine ⟨_,es,_,F,δ,ds,δ1,ok,e1,fun vs H1 F1 st sm ok1 r=>?_⟩
     have dl1:=dl.step ok st
     show sp2 X.K cl (.ref a::vs++[]) H1 _ E0
     rw [cP]
     exact ⟨G,F1,dss,ds,dss',a,qs,vs,rfl,ok1.fd,ok1.tf,ok1.tabs,dl1,fun b z=>ok1.rf b (.inr z),r.rl n,e3,fun H' k t dl'=>post σ H' F1 ((st.sub iz).trans (dl1.call2 ok1 k t dl').2) (dl1.call2 ok1 k t dl').1 dl' es⟩
   . cases e2
end
end PP
end
section
namespace PP
open PySem L2 PyProof.Rows
variable [Tbs]
noncomputable def ckA (c:Ck) (i:Nat) (a e:E) (x:Stmt):Bool:=As x fun w=>onM w fun y m as=>oE y fun y u=>dw y fun y=>on1 as fun z=>decide (m = ("append":Str)) && gk c i y && ckE c a u && ckE c e z && !bG e
noncomputable def restOk (c:Ck) (t:T) (ts:Ts) (xs:List Stmt):Bool:=match t,ts with
 | .rest ss,.nil=>dX c ss xs
 | _,_=>false
mutual
noncomputable def ck2 (c:Ck) (i:Nat) (cf:Str):T->Stmt->Bool
 | .asg j e,x=>mD x fun ts y=>on1 ts fun t=>dw t fun t=>eX c j t && ckE c e y && !bG e && !fj y
 | .lasg j e,x=>mD x fun ts y=>on1 ts fun t=>dw t fun t=>eX c j t && ckE c e y && !bG e && !fj y && np e
 | .app a e,x=>ckA c i a e x
 | .ifs e a b,x=>vw x fun t y z=>ckE c e t && nX c i cf a y && nX c i cf b z
 | .for_ j src b,x=>vx x fun t it y z=>on0 z (dw t fun t=>eX c j t && ckI c src it && nX c i cf b y)
 | .clo _ es,x=>As x fun w=>nM w fun f as=>onS as fun u zs=>dw u fun u=>decide (f = cf) && eC c f && gk c i u && gI c es zs && ir es
 | .rest _,_=>false
noncomputable def nX (c:Ck) (i:Nat) (cf:Str):Ts->List Stmt->Bool
 | .nil,xs=>on0 xs true
 | .cons t ts,xs=>restOk c t ts xs || onS xs fun y ys=>ck2 c i cf t y && nX c i cf ts ys
end
section
variable {X:Cx} {c:Ck} {cx:Cl} {k:Nat} {i:Nat} {cl:List (List D)->List D->Option (List (List D))} {cf:Str}
theorem KU (C:Cok X c cx k) {a e:E} {x:Stmt} (h:ckA c i a e x = true):PS X x (t2 X.K i fun δ dss=>(BD cx a e δ dss).bind nx2):=by
 obtain ⟨_,_,rfl,g1⟩:=pZ h
 obtain ⟨_,_,_,_,_,rfl,hl,g2⟩:=Ar g1
 obtain ⟨_,_,_,rfl,g3⟩:=ij g2
 obtain ⟨_,_,rfl,g4⟩:=bL g3
 obtain ⟨_,rfl,g5⟩:=dM g4
 simp only [aa] at g5
 obtain ⟨⟨⟨⟨h1,h2⟩,h3⟩,h4⟩,h5⟩:=g5
 have h1:=of_decide_eq_true h1
 subst h1
 exact GJ C h2 hl h3 h4 h5
mutual
theorem KW (C:Cok X c cx k) (hS:X.env.scope = c.sc) (hB:X.env.blockKind = .function) (hc:∀ wf es x,ck2 c i cf (.clo wf es) x = true->PS X x (t2 X.K i (ev2 cx cl i (.clo wf es)))):∀ (t:T) (x:Stmt),ck2 c i cf t x = true->PS X x (t2 X.K i (ev2 cx cl i t))
 | .asg j e,x,h=>by
   unfold ck2 at h
   obtain ⟨_,_,_,rfl,g6⟩:=iq h
   obtain ⟨_,rfl,g7⟩:=dM g6
   obtain ⟨_,_,rfl,g8⟩:=bL g7
   simp only [aa] at g8
   obtain ⟨⟨⟨h1,h2⟩,h3⟩,h4⟩:=g8
   exact GI C h1 h2 h3 h4
 | .lasg j e,x,h=>by
   unfold ck2 at h
   obtain ⟨_,_,_,rfl,g9⟩:=iq h
   obtain ⟨_,rfl,g10⟩:=dM g9
   obtain ⟨_,_,rfl,g11⟩:=bL g10
   simp only [aa] at g11
   obtain ⟨⟨⟨⟨h1,h2⟩,h3⟩,h4⟩,h5⟩:=g11
   exact Df C h1 h2 h3 h4 h5
 | .app a e,x,h=>by
   unfold ck2 at h
   have e0:ev2 cx cl i (.app a e) = fun δ dss=>(BD cx a e δ dss).bind nx2:=by
    funext δ dss
    rw [ev2]
   rw [e0]
   exact KU C h
 | .ifs e a b,x,h=>by
   unfold ck2 at h
   obtain ⟨_,_,_,_,rfl,g12⟩:=sf h
   simp only [aa] at g12
   exact GF C g12.1.1 (ov C hS hB hc a _ g12.1.2) (ov C hS hB hc b _ g12.2)
 | .for_ j src b,x,h=>by
   unfold ck2 at h
   obtain ⟨_,_,_,_,_,rfl,g31⟩:=sg h
   obtain ⟨rfl,g32⟩:=eW g31
   obtain ⟨_,_,rfl,g33⟩:=bL g32
   simp only [aa] at g33
   exact GG C g33.1.1 g33.1.2 (ov C hS hB hc b _ g33.2)
 | .clo wf es,x,h=>hc wf es x h
 | .rest ss,x,h=>by
   unfold ck2 at h
   cases h
theorem ov (C:Cok X c cx k) (hS:X.env.scope = c.sc) (hB:X.env.blockKind = .function) (hc:∀ wf es x,ck2 c i cf (.clo wf es) x = true->PS X x (t2 X.K i (ev2 cx cl i (.clo wf es)))):∀ (ts:Ts) (xs:List Stmt),nX c i cf ts xs = true->PSs X xs (t2 X.K i (fV cx cl i ts))
 | .nil,xs,h=>by
   unfold nX at h
   obtain ⟨rfl,_⟩:=eW h
   exact GD
 | .cons t ts,xs,h=>by
   unfold nX at h
   rw [bf] at h
   rcases h with h | h
   . unfold restOk at h
     split at h
     . exact De C hS hB h
     . cases h
   . obtain ⟨_,_,rfl,g37⟩:=dc h
     rw [aa] at g37
     exact Dg (KW C hS hB hc t _ g37.1) (ov C hS hB hc ts _ g37.2)
end
theorem Ok.setNo {K:PySem.W.Frag} {G:Gh} {F:Addr->Prop} {σ:L2.St} {H:Hp} {δ:Loc} (h:Ok K G F σ H δ) (j:Nat) (v:Option V):Ok K G F (σ.set j v) H (δ.set j .no):=by
 have lo:∀ {m:Nat} {s:Sl},(δ.set j .no)[m]? = some s->s≠.no->m≠j/\δ[m]? = some s:=fun {m s} q hs=>by
  by_cases hm:m = j
  . subst hm
    rw [List.getElem?_set] at q
    simp only [if_true] at q
    split at q
    . cases q;exact absurd rfl hs
    . cases q
  . rw [aK (Ne.symm hm)] at q;exact ⟨hm,q⟩
 refine ⟨h.same,h.fd,h.rf,h.rl,h.tf,h.tabs,by rw [bb,bb];exact h.len,fun m s q=>?_,fun m n es fs b q1 q2 o1 o2 p1 p2=>?_⟩
 . by_cases hs:s = .no
   . subst hs;trivial
   . obtain ⟨hm,q⟩:=lo q hs
     rw [aK (Ne.symm hm)]
     exact h.sl m _ q
 . obtain ⟨hm,q1⟩:=lo q1 (fun z=>by rw [z] at o1;cases o1)
   obtain ⟨hn,q2⟩:=lo q2 (fun z=>by rw [z] at o2;cases o2)
   rw [aK (Ne.symm hm)] at p1
   rw [aK (Ne.symm hn)] at p2
   exact h.apart m n es fs b q1 q2 o1 o2 p1 p2
theorem Ok.keepQ {K:PySem.W.Frag} {G:Gh} {H:Hp} {F:Addr->Prop} {σ:L2.St} {δ:Loc} {a:Addr} {qs:List Addr} (h:Ok K (Gq G a qs) F σ H δ):Ok K G F σ H δ :=
 ⟨h.same,h.fd,fun b z=>h.rf b (.inl z),fun b z=>h.rl b (.inl z),h.tf,h.tabs,h.len,fun j s e=>dh.free (G:=Gq G a qs) (G':=G) (fun a _ g=>⟨g.1,fun z=>g.2 (.inl z)⟩) (h.sl j s e),h.apart⟩
noncomputable def evB (cl:List (List D)->List D->Option (List (List D))) (i:Nat) (ts:Ts):Ss->Cl->Loc->Option Out
 | .nil,cx,δ=>if i < δ.length then (match fV cx cl i ts (δ.set i .no) [[],[]] with
   | some (.rt d δ')=>some (.rt d δ')
   | _=>none) else none
 | .cons s ss,cx,δ=>match evS cx s δ with
   | some (.nx δ1)=>evB cl i ts ss cx δ1
   | _=>none
noncomputable def onE (x:Expr):Bool:=se x fun es=>on0 es true
noncomputable def ckB (c:Ck) (i:Nat) (cf:Str) (ts:Ts):Ss->List Stmt->Bool
 | .nil,xs=>onS xs fun y ys=>(mD y fun t y=>on1 t fun t=>dw t fun t=>se y fun es=>on2 es fun a b=>eX c i t && onE a && onE b) && nX c i cf ts ys
 | .cons s ss,xs=>onS xs fun y ys=>ckS c s y && ckB c i cf ts ss ys
theorem Au {x:Expr} (h:onE x = true):∃ p,x = .List [] p:=by
 obtain ⟨_,p,rfl,g38⟩:=ik h
 obtain ⟨rfl,_⟩:=eW g38
 exact ⟨p,rfl⟩
theorem Jr (C:Cok X c cx k) (hS:X.env.scope = c.sc) (hB:X.env.blockKind = .function) (hc:∀ wf es x,ck2 c i cf (.clo wf es) x = true->PS X x (t2 X.K i (ev2 cx cl i (.clo wf es)))) (ts:Ts):∀ (ss:Ss) (xs:List Stmt),ckB c i cf ts ss xs = true->PSs X xs (tS X.K (evB cl i ts ss cx))
 | .cons s ss,xs,h=>by
   obtain ⟨_,_,rfl,g39⟩:=dc h
   rw [aa] at g39
   refine PSs.imp (jA (Jq C hS hB s _ g39.1) (Jr C hS hB hc ts ss _ g39.2)) fun E σ H ⟨G,F,δ,o,ok,ev,post⟩=>?_
   unfold evB at ev
   cases e:evS cx s δ with
   | none=>rw [e] at ev;cases ev
   | some o1 =>
     rw [e] at ev
     cases o1 with
     | nx δ1=>exact ⟨G,F,δ,.nx δ1,ok,e,fun σ' H' F' st ok'=>⟨G,F',δ1,o,ok',ev,post.step st⟩⟩
     | _=>cases ev
 | .nil,xs,h=>by
   obtain ⟨_,_,rfl,g40⟩:=dc h
   rw [aa] at g40
   obtain ⟨h,ht⟩:=g40
   obtain ⟨_,_,_,rfl,g41⟩:=iq h
   obtain ⟨_,rfl,g42⟩:=dM g41
   obtain ⟨_,_,rfl,g43⟩:=bL g42
   obtain ⟨_,_,rfl,g44⟩:=ik g43
   obtain ⟨_,_,rfl,g45⟩:=kf g44
   simp only [aa] at g45
   obtain ⟨⟨h0,h1⟩,h2⟩:=g45
   obtain ⟨_,rfl⟩:=Au h1
   obtain ⟨_,rfl⟩:=Au h2
   obtain ⟨n1,n2,n3⟩:=C.to h0
   refine PSs.imp (jA (pW C.nd' n1 n2 (mn (eS (mn gQ) (eS (mn gQ) gQ))) rfl n3) (ov C hS hB hc ts _ ht)) fun E σ H ⟨G,F,δ,o,ok,ev,post⟩=>?_
   unfold evB at ev
   split at ev
   . rename_i hi
     have z5:(2:Nat)<=sizeLine:=by decide +kernel
     refine ⟨bA _,fun q0 e0=>⟨bA _,fun q1 e1=>⟨z5,fun a e4=>?_⟩⟩⟩
     obtain ⟨F',o1,o2,o3⟩:=ok.three e0 rfl e1 rfl e4
     have hσ:i < σ.length:=by rw [<- ok.len];exact hi
     cases e:fV cx cl i ts (δ.set i .no) [[],[]] with
     | none=>rw [e] at ev;cases ev
     | some o9 =>
       rw [e] at ev
       cases o9 with
       | nx _ _=>cases ev
       | rt d δ' =>
         cases ev
         exact ⟨G,F',δ.set i .no,_,a,_,_,o1.setNo i _,o2,by rw [bH hσ],e,fun v σ' H' F2 st ok2 r=>post v σ' H' F2 (o3.trans st) ok2.keepQ r⟩
   . cases ev
theorem KQ (C:Cok X c cx k) (hS:X.env.scope = c.sc) (hB:X.env.blockKind = .function) (hc:∀ wf es x,ck2 c i cf (.clo wf es) x = true->PS X x (t2 X.K i (ev2 cx cl i (.clo wf es)))) {ts:Ts} {ss:Ss} {xs:List Stmt} (h:ckB c i cf ts ss xs = true):PSs X xs (tS X.K (dO cx (.cons (.opq (evB cl i ts ss)) .nil))) :=
 PSs.imp (Jr C hS hB hc ts ss xs h) fun E σ H ⟨G,F,δ,o,ok,ev,post⟩=>⟨G,F,δ,o,ok,by
  change (match evB cl i ts ss cx δ with | some (.nx δ1)=>some (.nx δ1) | o=>o) = some o at ev
  cases e:evB cl i ts ss cx δ with
  | none=>rw [e] at ev;cases ev
  | some o1=>rw [e] at ev;cases o1<;>exact ev,post⟩
theorem Li (C:Cok X c cx k) {a:Addr} {fd:FuncData} {ps:List Str} (fn:fN X.prog X.w X.K X.mg X.base CX0 1 a fd ps (sp2 X.K cl)) (hm:X.mg cf = some (.ref a)) (hk:PySem.W.keepIn X.K (.ref a) = true) (hb:Binds X.K fd ps []):∀ wf es x,ck2 c i cf (.clo wf es) x = true->PS X x (t2 X.K i (ev2 cx cl i (.clo wf es))):=fun wf es x h=>by
 unfold ck2 at h
 obtain ⟨_,_,rfl,g1⟩:=pZ h
 obtain ⟨_,_,_,_,rfl,g2⟩:=eV g1
 obtain ⟨_,_,rfl,g3⟩:=dc g2
 obtain ⟨_,_,rfl,g4⟩:=bL g3
 simp only [aa] at g4
 obtain ⟨⟨⟨⟨h1,h2⟩,h3⟩,h4⟩,h5⟩:=g4
 have h1:=of_decide_eq_true h1
 subst h1
 exact GH C fn hm hk hb h2 h3 h4 h5
end
noncomputable def cx0:Cl:=⟨fun _ _=>none,[],fun _=>false⟩
noncomputable def clF (np n:Nat) (ts:Ts) (dss:List (List D)) (ds:List D):Option (List (List D)):=if ds.length = np then (match fV cx0 (fun _ _=>none) 0 ts (.no::init n ds) dss with
 | some (.nx _ dss')=>some dss'
 | _=>none) else none
noncomputable def G2 (F:Addr->Prop) (H:Hp) (a:Addr) (qs:List Addr):Gh:=⟨xR H a qs,fun b=>(F b/\∃ o,H b = some o/\Mo o)/\¬ (b = a\/b∈qs)⟩
section
variable {K:PySem.W.Frag} {G:Gh} {F F':Addr->Prop} {H H':Hp} {σ:L2.St} {δ:Loc} {dss dss':List (List D)} {a:Addr} {qs:List Addr}
theorem Dl.gh (dl:Dl K G F H dss a qs) {G':Gh} (h:∀ b,(b = a\/b∈qs)->G'.free b):Dl K G' F H dss a qs :=
 ⟨dl.ha,h a (.inl rfl),dl.len,dl.nd,dl.aq,fun j q ds e1 e2=>⟨h q (.inr (aO e1)),(dl.at_ j q ds e1 e2).2⟩⟩
theorem Et {b:Addr} (z:b = a\/b∈qs):(G2 F H a qs).free b:=⟨vW z,fun w=>w.2 z⟩
theorem Gi {ds:List D} {ws:List V} {n:Nat} (fd:FD F H) (tf:TF F) (tb:iC H) (dl:Dl K G F H dss a qs) (inF:∀ b,(b = a\/b∈qs)->F b) (r:aA K H F ds ws) (hl:ws.length<=n) :
 Ok K (Gq (G2 F H a qs) a qs) F (some (.ref a)::(ws.map some++List.replicate (n - ws.length) none)) H (.no::init n ds):=by
 have hlen:=r.length
 have low:∀ (i:Nat) (s:Sl),(init n ds)[i]? = some s->s = .no\/∃ d,ds[i]? = some d/\s = .val d:=fun i s e=>by
  unfold init at e
  by_cases hi:i < ds.length
  . rw [aM (by simpa using hi),aS,ax hi] at e
    cases e
    exact .inr ⟨_,ax hi,rfl⟩
  . rw [aU (by simp;omega),dv] at e
    split at e
    . cases e;exact .inl rfl
    . cases e
 have lst:∀ b,(b = a\/b∈qs)->∃ o,H b = some o/\Mo o:=fun b z=>by
  obtain ⟨xs,e⟩:=dl.in_lst z
  exact ⟨_,e,trivial⟩
 have out:∀ b o,xR H a qs b = some o->H b = some o:=fun b o e=>by
  by_cases z:b = a\/b∈qs
  . rw [vW z] at e;cases e
  . rw [mV z] at e;exact e
 refine ⟨⟨fun b o _ e=>out b o e,fun b ps e=>⟨ps,out b _ e⟩⟩,fd,fun b z=>z.elim (fun w=>w.1.1) (inF b),fun b z=>z.elim (fun w=>w.1.2) (lst b),tf,tb,?_,fun i s e=>?_,fun i j s t a e1 _ o1=>?_⟩
 . unfold init
   simp only [aw,az,aj,dI]
   omega
 . cases i with
   | zero=>cases e;trivial
   | succ i =>
     rcases low i s (by simpa using e) with rfl | ⟨d,e1,rfl⟩
     . trivial
     . obtain ⟨v,hv,rv⟩:=r.get e1
       refine ⟨v,?_,rv⟩
       have hi:i < ws.length:=(aE.mp hv).1
       rw [ti,aM (by simpa using hi),aS,hv]
       rfl
 . cases i with
   | zero=>cases e1;cases o1
   | succ i=>rcases low i _ (by simpa using e1) with z | ⟨d,_,z⟩<;>(subst z;cases o1)
end
end PP
end
section
namespace PP
open PySem L2 PyProof.Rows
variable [Tbs]
theorem Ik {P:Program} {w:World} {K:PySem.W.Frag} {mg:Str->Option Value} {base:Heap} {x:Str} {st:Stmt} {f:Addr} {fdd:FuncData} {N ps:List Str} {np n:Nat} {ts:Ts} (Fn:Fun K x x st f fdd) (S:bx N ps (au st)) (hps:ps.length = np+1) (hN:N.length = n+1) (hn:np<=n)
 (hblt:∀ x,x∈jM->mg x = none) (hgds:∀ (n:Str) (l:List (Str × Int)),Tbs.gds.lookup n = some l->∃ a,mg n = some (.ref a)/\GdK w K a l)
 (hlam:∀ (n:Nat) (cs:List D) (H:Hp) (a:Addr),¬ FnV H n cs a)
 (ck:nX ⟨N,au st,[],[]⟩ 0 "" ts (aJ st) = true):fN P w K mg base CX0 1 f fdd ps (sp2 K (clF np n ts)):=by
 refine okC (k:=0) (N:=N) Fn S (fun vs H Q E h=>?_) fun A outer s H vs Q E hr h=>?_
 . obtain ⟨G,F,dss,ds,dss',a,qs,ws,rfl,_,_,_,_,_,r,e,_⟩:=h
   unfold clF at e
   split at e
   . rename_i hd
     rw [aw,r.length,hd,hps]
   . cases e
 . obtain ⟨G,F,dss,ds,dss',a,qs,ws,rfl,fd,tf,tb,dl,inF,r,e,q⟩:=h
   have C:Cok (kS CX0 P w K mg base N x (au st) f fdd.code A outer s H E).nox ⟨N,au st,[],[]⟩ cx0 0:={
    hN:=rfl
    nd:=S.nd
    vis:=fun x hx=>hx
    gl:=fun x hx=>hx
    st:=fun x hx=>⟨hx,.inl rfl⟩
    kc:=fun x hx=>hx
    calm:=rfl
    xe:=rfl
    room:=hr
    fns:=fun f x ps e=>by cases e
    fnO:=fun f x ps e=>by cases e
    blt:=hblt
    glob:=fun g x d e=>by cases e
    gsome:=fun g x e=>by cases e
    gds:=hgds
    pos:=fun _ _ _=>rfl }
   have hblk:(kS CX0 P w K mg base N x (au st) f fdd.code A outer s H E).nox.env.blockKind = .function:=by
    unfold Env.blockKind
    show (if (au st).kind.isAnnotationScope then ScopeKind.function else (au st).kind) = _
    rw [S.kind]
    rfl
   refine ⟨_,ov (cl:=fun _ _=>none) C rfl hblk (fun wf es x _ pins s σ H E I h=>?_) ts _ ck,?_⟩
   . obtain ⟨_,_,_,_,_,_,_,_,_,_,ev,_⟩:=h
     unfold ev2 at ev
     obtain ⟨_,_,e2⟩:=af.mp ev
     split at e2
     . cases e2
     . cases e2
   unfold clF at e
   split at e
   . rename_i hd
     cases e9:fV cx0 (fun _ _=>none) 0 ts (.no::init n ds) dss with
     | none=>rw [e9] at e;cases e
     | some o =>
       rw [e9] at e
       cases o with
       | rt _ _=>cases e
       | nx δ' dss2 =>
         cases e
         have es:L2.start N (.ref a::ws) = some (.ref a)::(ws.map some++List.replicate (n - ws.length) none):=by
          unfold L2.start
          rw [aI,aw,hN,Nat.add_sub_add_right,lK]
         rw [es]
         refine ⟨G2 F H a qs,F,.no::init n ds,dss,a,qs,_,Gi fd tf tb dl inF r (by rw [r.length,hd];exact hn),dl.gh fun b z=>Et z,rfl,e9,fun σ' H' F' st' ok' dl' es'=>?_⟩
         have gr:∀ b,F b->F' b:=fun b z=>by
          by_cases hb:b = a\/b∈qs
          . exact ok'.rf b (.inr hb)
          . obtain ⟨o,e,m | ⟨⟨ps,rfl⟩,t,ht,eb⟩⟩:=fd b z
            . exact ok'.rf b (.inl ⟨⟨z,o,e,m⟩,hb⟩)
            . rw [<- eb];exact ok'.tf t ht
         refine q H' ok'.same ok'.tabs ⟨dl'.ha,dl.fa,dl'.len,dl'.nd,dl'.aq,fun j q ds e1 e2=>?_⟩
         obtain ⟨_,xs,ex,rx⟩:=dl'.at_ j q ds e1 e2
         exact ⟨dl.in_free (.inr (aO e1)),xs,ex,aA.step (G:=g0) ok'.fd ⟨fun _ _ _ e _=>e,fun b z=>.inl (gr b z),fun _ _ r _ _=>r.elim,fun _ ps e=>⟨ps,e⟩⟩ ds xs rx⟩
   . cases e
end PP
end
section
namespace PP
open PySem
section
variable {cx:Cl} {δ:Loc}
end
end PP
end
section
namespace PP
open PySem
theorem eY {a b:D} {k:Bool} (h:ltD a b = some k):(∃ i j:Int,a = .int i/\b = .int j/\k = decide (i < j))\/(∃ s t:Str,a = .str s/\b = .str t/\k = ltS s t)\/∃ xs ys,a = .tup xs/\b = .tup ys/\dq xs ys = some k:=by
 unfold ltD at h
 split at h
 . cases h;exact .inl ⟨_,_,rfl,rfl,rfl⟩
 . cases h;exact .inr (.inl ⟨_,_,rfl,rfl,rfl⟩)
 . exact .inr (.inr ⟨_,_,rfl,rfl,h⟩)
 . cases h
theorem dC {x y:D} {xs ys:List D} (hx:hb x = true) (hy:hb y = true):dq (x::xs) (y::ys) = some k↔(x = y/\dq xs ys = some k)\/(x≠y/\ltD x y = some k):=by
 rw [show dq (x::xs) (y::ys) = if eqD x y = true then dq xs ys else ltD x y from by rw [dq]]
 by_cases e:x = y
 . rw [if_pos ((fb x y hx hy).mpr e)]
   exact ⟨fun h=>.inl ⟨e,h⟩,fun h=>h.elim (·.2) fun z=>absurd e z.1⟩
 . rw [if_neg fun z=>e ((fb x y hx hy).mp z)]
   exact ⟨fun h=>.inr ⟨e,h⟩,fun h=>h.elim (fun z=>absurd z.1 e) (·.2)⟩
noncomputable def LtA (a:D):Prop:=∀ b k k',hb a = true->hb b = true->ltD a b = some k->ltD b a = some k'->(a = b/\k = false/\k' = false)\/(a≠b/\k' = !k)
noncomputable def LtT (a:D):Prop:=∀ b c k,hb a = true->hb b = true->hb c = true->ltD b a = some false->ltD c b = some false->ltD c a = some k->k = false
theorem iy {x:D} {xs:List D} (h:hbL (x::xs) = true):hb x = true/\hbL xs = true:=by
 unfold hbL at h
 rwa [aa] at h
theorem sk:∀ (xs ys:List D) (k k':Bool),(∀ x∈xs,LtA x)->hbL xs = true->hbL ys = true->dq xs ys = some k->dq ys xs = some k'->(xs = ys/\k = false/\k' = false)\/(xs≠ys/\k' = !k)
 | [],[],k,k',_,_,_,h,h'=>by
   unfold dq at h h'
   cases h;cases h'
   exact .inl ⟨rfl,rfl,rfl⟩
 | [],_::_,k,k',_,_,_,h,h'=>by
   unfold dq at h h'
   cases h;cases h'
   exact .inr ⟨by simp,rfl⟩
 | _::_,[],k,k',_,_,_,h,h'=>by
   unfold dq at h h'
   cases h;cases h'
   exact .inr ⟨by simp,rfl⟩
 | x::xs,y::ys,k,k',hA,h1,h2,h,h'=>by
   obtain ⟨a1,a2⟩:=iy h1
   obtain ⟨b1,b2⟩:=iy h2
   rcases (dC a1 b1).mp h with ⟨rfl,g⟩ | ⟨e,g⟩
   . rcases (dC b1 a1).mp h' with ⟨_,g'⟩ | ⟨e',_⟩
     . rcases sk xs ys k k' (fun z hz=>hA z (av _ hz)) a2 b2 g g' with ⟨rfl,q⟩ | ⟨n,q⟩
       . exact .inl ⟨rfl,q⟩
       . exact .inr ⟨fun z=>n (List.cons.inj z).2,q⟩
     . exact absurd rfl e'
   . rcases (dC b1 a1).mp h' with ⟨e',_⟩ | ⟨_,g'⟩
     . exact absurd e'.symm e
     . rcases hA x ak y k k' a1 b1 g g' with ⟨z,_⟩ | ⟨_,q⟩
       . exact absurd z e
       . exact .inr ⟨fun z=>e (List.cons.inj z).1,q⟩
theorem mT {x:D}:∀ {xs:List D},x∈xs->dep x<=bI xs
 | y::ys,h=>by
   unfold bI
   rcases aQ.mp h with rfl | h
   . exact Fb _ _
   . exact bK (mT h) (Ez _ _)
theorem qd:∀ (n:Nat) (a:D),dep a<=n->LtA a
 | n,a,hn,b,k,k',ha,hb',h,h'=>by
   rcases eY h with ⟨i,j,rfl,rfl,rfl⟩ | ⟨s,t,rfl,rfl,rfl⟩ | ⟨xs,ys,rfl,rfl,h⟩
   . rcases eY h' with ⟨i',j',e1,e2,rfl⟩ | ⟨_,_,e,_⟩ | ⟨_,_,e,_⟩
     . cases e1;cases e2
       by_cases e:i = j
       . subst e;exact .inl ⟨rfl,by simp,by simp⟩
       . refine .inr ⟨fun z=>e (D.int.inj z),?_⟩
         by_cases l:i < j
         . rw [decide_eq_true l,decide_eq_false (by omega)];rfl
         . rw [decide_eq_false l,decide_eq_true (by omega)];rfl
     . cases e
     . cases e
   . rcases eY h' with ⟨_,_,e,_⟩ | ⟨s',t',e1,e2,rfl⟩ | ⟨_,_,e,_⟩
     . cases e
     . cases e1;cases e2
       by_cases e:s = t
       . subst e
         have:ltS s s = false:=by
          cases z:ltS s s with
          | false=>rfl
          | true=>have:=AE _ _ z;rw [z] at this;cases this
         exact .inl ⟨rfl,this,this⟩
       . refine .inr ⟨fun z=>e (D.str.inj z),?_⟩
         cases z:ltS s t with
         | true=>exact AE _ _ z
         | false =>
           cases z':ltS t s with
           | true=>rfl
           | false=>exact absurd (HK _ _ z z') e
     . cases e
   . rcases eY h' with ⟨_,_,e,_⟩ | ⟨_,_,e,_⟩ | ⟨xs',ys',e1,e2,h'⟩
     . cases e
     . cases e
     . cases e1;cases e2
       unfold hb at ha hb'
       have hd:bI xs+1<=n:=by unfold dep at hn;exact hn
       cases n with
       | zero=>omega
       | succ n =>
         rcases sk xs ys k k' (fun x hx=>qd n x (by have:=mT hx;omega)) ha hb' h h' with ⟨rfl,q⟩ | ⟨e,q⟩
         . exact .inl ⟨rfl,q⟩
         . exact .inr ⟨fun z=>e (D.tup.inj z),q⟩
theorem sj:∀ (xs ys zs:List D) (k:Bool),(∀ x∈xs,LtT x)->hbL xs = true->hbL ys = true->hbL zs = true->dq ys xs = some false->dq zs ys = some false->dq zs xs = some k->k = false
 | [],ys,zs,k,_,_,_,_,_,_,h3=>by
   cases zs<;>unfold dq at h3<;>cases h3<;>rfl
 | x::xs,[],zs,k,_,_,_,_,h1,_,_=>by
   unfold dq at h1;cases h1
 | x::xs,y::ys,[],k,_,_,_,_,_,h2,_=>by
   unfold dq at h2;cases h2
 | x::xs,y::ys,z::zs,k,hT,b1,b2,b3,h1,h2,h3=>by
   obtain ⟨x1,x2⟩:=iy b1
   obtain ⟨y1,y2⟩:=iy b2
   obtain ⟨z1,z2⟩:=iy b3
   rcases (dC y1 x1).mp h1 with ⟨e1,g1⟩ | ⟨e1,g1⟩
   . subst e1
     rcases (dC z1 y1).mp h2 with ⟨e2,g2⟩ | ⟨e2,g2⟩
     . subst e2
       rcases (dC z1 z1).mp h3 with ⟨_,g3⟩ | ⟨e3,_⟩
       . exact sj xs ys zs k (fun w hw=>hT w (av _ hw)) x2 y2 z2 g1 g2 g3
       . exact absurd rfl e3
     . rcases (dC z1 y1).mp h3 with ⟨e3,_⟩ | ⟨_,g3⟩
       . exact absurd e3 e2
       . rw [g2] at g3;cases g3;rfl
   . rcases (dC z1 y1).mp h2 with ⟨e2,g2⟩ | ⟨e2,g2⟩
     . subst e2
       rcases (dC z1 x1).mp h3 with ⟨e3,_⟩ | ⟨_,g3⟩
       . exact absurd e3 e1
       . rw [g1] at g3;cases g3;rfl
     . rcases (dC z1 x1).mp h3 with ⟨e3,_⟩ | ⟨_,g3⟩
       . subst e3
         rcases qd _ y (ay _) z false false y1 z1 g1 g2 with ⟨e,_⟩ | ⟨_,e⟩
         . exact absurd e e1
         . cases e
       . exact hT x ak y z k x1 y1 z1 g1 g2 g3
theorem vD:∀ (n:Nat) (a:D),dep a<=n->LtT a
 | n,a,hn,b,c,k,ha,hb',hc,h1,h2,h3=>by
   rcases eY h3 with ⟨i,j,rfl,rfl,rfl⟩ | ⟨s,t,rfl,rfl,rfl⟩ | ⟨zs,xs,rfl,rfl,g3⟩
   . rcases eY h1 with ⟨i',j',rfl,e2,e3⟩ | ⟨_,_,_,e,_⟩ | ⟨_,_,_,e,_⟩
     . cases e2
       rcases eY h2 with ⟨_,_,e4,e5,e6⟩ | ⟨_,_,e,_⟩ | ⟨_,_,e,_⟩
       . cases e4;cases e5
         have:=of_decide_eq_false e3.symm
         have:=of_decide_eq_false e6.symm
         exact decide_eq_false (by omega)
       . cases e
       . cases e
     . cases e
     . cases e
   . rcases eY h1 with ⟨_,_,_,e,_⟩ | ⟨i',j',rfl,e2,e3⟩ | ⟨_,_,_,e,_⟩
     . cases e
     . cases e2
       rcases eY h2 with ⟨_,_,e,_⟩ | ⟨_,_,e4,e5,e6⟩ | ⟨_,_,e,_⟩
       . cases e
       . cases e4;cases e5
         exact HJ _ _ _ e3.symm e6.symm
       . cases e
     . cases e
   . rcases eY h1 with ⟨_,_,_,e,_⟩ | ⟨_,_,_,e,_⟩ | ⟨ys,xs',rfl,e2,g1⟩
     . cases e
     . cases e
     . cases e2
       rcases eY h2 with ⟨_,_,e,_⟩ | ⟨_,_,e,_⟩ | ⟨_,_,e4,e5,g2⟩
       . cases e
       . cases e
       . cases e4;cases e5
         unfold hb at ha hb' hc
         have hd:bI xs+1<=n:=by unfold dep at hn;exact hn
         cases n with
         | zero=>omega
         | succ n=>exact sj xs ys zs k (fun x hx=>vD n x (by have:=mT hx;omega)) ha hb' hc g1 g2 g3
theorem lz {a b:D} {k:Bool} (h:iT a b = some k):ltD a b = some k/\ltB a b = k:=by
 refine ⟨?_,by unfold ltB;rw [h];rfl⟩
 unfold iT at h
 split at h
 . exact h
 . cases h
theorem Ga {ds:List D} (hs:sortable ds = true) (hh:∀ d∈ds,hb d = true):tot ds = true:=by
 obtain ⟨_,_,hlt⟩:=(letI:Tbs:=⟨[],[],[]⟩;cQ hs)
 unfold tot
 rw [bD]
 intro a ha
 rw [bD]
 intro b hb'
 obtain ⟨k,e⟩:=hlt a ha b hb'
 obtain ⟨k',e'⟩:=hlt b hb' a ha
 obtain ⟨e1,e2⟩:=lz e
 obtain ⟨e1',e2'⟩:=lz e'
 have h:=qd _ a (ay _) b k k' (hh a ha) (hh b hb') e1 e1'
 rw [e2,e2',aa,aa]
 refine ⟨⟨?_,?_⟩,?_⟩
 . rcases h with ⟨_,rfl,rfl⟩ | ⟨_,rfl⟩
   . rfl
   . cases k<;>rfl
 . rcases h with ⟨rfl,rfl,rfl⟩ | ⟨_,rfl⟩
   . rw [(fb a a (hh a ha) (hh a ha)).mpr rfl];rfl
   . cases k<;>rfl
 . rw [bD]
   intro c hc
   obtain ⟨m,f⟩:=hlt c hc b hb'
   obtain ⟨m',f'⟩:=hlt c hc a ha
   obtain ⟨f1,f2⟩:=lz f
   obtain ⟨f1',f2'⟩:=lz f'
   rw [f2,f2']
   cases k' with
   | true=>rfl
   | false =>
     cases m with
     | true=>rfl
     | false =>
       rw [vD _ a (ay _) b c m' (hh a ha) (hh b hb') (hh c hc) e1' f1 f1']
       rfl
theorem BH {ds:List D} {d x:D} (hd:hb d = true) (hs:∀ y∈ds,hb y = true):x∈kW ds d↔x∈ds\/x = d:=by
 unfold kW
 split
 . rename_i h
   obtain ⟨y,hy,e⟩:=cR.mp h
   rw [fb y d (hs y hy) hd] at e
   exact ⟨.inl,fun z=>z.elim id fun z=>by rw [z,<- e];exact hy⟩
 . simp
theorem qo:∀ (xs ds:List D),(∀ x∈xs,hb x = true)->(∀ x∈ds,hb x = true)->ds.Nodup->(∀ x,x∈xs.foldl kW ds↔x∈ds\/x∈xs)/\(xs.foldl kW ds).Nodup
 | [],ds,_,_,h=>⟨fun x=>by simp,h⟩
 | d::xs,ds,h1,h2,h3=>by
   have hd:=h1 d ak
   have hm:∀ x,x∈kW ds d↔x∈ds\/x = d:=fun x=>BH hd h2
   have hn:(kW ds d).Nodup:=by
    unfold kW
    split
    . exact h3
    . rename_i h
      rw [List.nodup_append]
      refine ⟨h3,by simp,fun a ha b hb'=>?_⟩
      rw [dE] at hb'
      intro e
      apply h
      exact cR.mpr ⟨a,ha,(fb a d (h2 a ha) hd).mpr (by rw [e,hb'])⟩
   obtain ⟨i1,i2⟩:=qo xs (kW ds d) (fun x hx=>h1 x (av _ hx)) (fun x hx=>by
    rcases (hm x).mp hx with z | rfl
    . exact h2 x z
    . exact hd) hn
   refine ⟨fun x=>?_,i2⟩
   rw [eO,i1 x,hm x,aQ,or_assoc]
theorem jI {xs:List D} (h:∀ x∈xs,hb x = true) {x:D}:x∈hW xs↔x∈xs:=by
 have:=(qo xs [] h (by simp) (by simp)).1 x
 unfold hW
 rw [this]
 simp
theorem mU {xs:List D} (h:∀ x∈xs,hb x = true):(hW xs).Nodup:=(qo xs [] h (by simp) (by simp)).2
theorem lW {α:Type}:∀ {l ns:List α},l.Nodup->(∀ x∈l,x∈ns)->l.length<=ns.length
 | [],_,_,_=>bA _
 | x::l,ns,h,hs=>by
   rw [eM] at h
   obtain ⟨a,b,rfl⟩:=List.append_of_mem (hs x ak)
   have ih:=lW (l:=l) (ns:=a++b) h.2 fun y hy=>by
    have:=hs y (av _ hy)
    simp only [cg,aQ] at this ⊢
    rcases this with z | rfl | z
    . exact .inl z
    . exact absurd hy h.1
    . exact .inr z
   simp only [az,aw] at ih ⊢
   omega
noncomputable def srt (xs:List D):List D:=dQ (hW xs)
theorem nO {xs:List D} {n:Nat} (hn:n < 64) (h:∀ x∈xs,hb x = true) (hl:∀ l:List D,l.Nodup->(∀ x∈l,x∈xs)->l.length<=n) (hk:∀ x∈xs,bo x = 3) (hc:∀ x∈xs,∀ y∈xs,(iT x y).isSome = true):sortable (hW xs) = true:=by
 have hm:∀ x,x∈hW xs->x∈xs:=fun x hx=>(jI h).mp hx
 unfold sortable
 simp only [aa,decide_eq_true_eq,bD]
 refine ⟨⟨gA (hl _ (mU h) hm) hn,fun x hx=>?_⟩,fun x hx y hy=>hc x (hm x hx) y (hm y hy)⟩
 cases e:hW xs with
 | nil=>rw [e] at hx;cases hx
 | cons z zs =>
   have e1:=hk x (hm x hx)
   have e2:=hk z (hm z (by rw [e];exact ak))
   show (bo x != 0) = true/\(bo x == bo z) = true
   rw [e1,e2]
   exact ⟨rfl,rfl⟩
end PP
end
section
namespace PP
open PySem L2
noncomputable def lU:Nat->Ss->Ss
 | 0,_=>.nil
 | _,.nil=>.nil
 | k+1,.cons s ss=>.cons s (lU k ss)
noncomputable def oU:Nat->Ss->Ss
 | 0,ss=>ss
 | _,.nil=>.nil
 | k+1,.cons _ ss=>oU k ss
noncomputable def nxS (R:PP.Loc->Prop) (Q:Out->Prop):Out->Prop
 | .nx δ=>R δ
 | o=>Q o
theorem Az {R:PP.Loc->Prop} {Q:Out->Prop} {δ:PP.Loc}:nxS R Q (.nx δ)↔R δ:=aY
theorem Cd {cx:Cl} {s:S} {δ:PP.Loc} {P Q:Out->Prop} (h:wS cx s δ P) (k:∀ o,P o->Q o):wS cx s δ Q:=let ⟨o,e,p⟩:=h;⟨o,e,k o p⟩
theorem pC {cx:Cl} {Q:Out->Prop} {R:PP.Loc->Prop}:∀ (k:Nat) (ss:Ss) (δ:PP.Loc),wSs cx (lU k ss) δ (nxS R Q)->(∀ δ',R δ'->wSs cx (oU k ss) δ' Q)->wSs cx ss δ Q
 | 0,ss,δ,h,q=>by
   unfold lU at h
   exact q δ (gN.mp h)
 | _+1,.nil,δ,h,q=>by
   unfold lU at h
   unfold oU at q
   exact q δ (gN.mp h)
 | k+1,.cons s ss,δ,h,q=>by
   unfold lU at h
   unfold oU at q
   refine ft.mpr (Cd (ft.mp h) fun o p=>?_)
   cases o with
   | nx δ1=>exact pC k ss δ1 p q
   | rt d δ1=>exact p
   | bk δ1=>exact p
   | ct δ1=>exact p
   | ro d δ1=>exact p
theorem yL {cx:Cl} {c:E} {a b:Ss} {δ δ0:PP.Loc} {Q:Out->Prop} (P:Bool->Prop) (h:wT cx c δ fun k δ1=>δ1 = δ0/\P k) (ha:P true->wSs cx a δ0 Q) (hb:P false->wSs cx b δ0 Q):wS cx (.ifs c a b) δ Q:=by
 obtain ⟨k,δ1,e,rfl,p⟩:=h
 refine yK.mpr ⟨k,δ1,e,?_⟩
 cases k
 . exact hb p
 . exact ha p
theorem iU {c A B:Prop} [Decidable c] (h1:c->A) (h2:¬ c->B):if c then A else B:=by
 by_cases h:c
 . rw [if_pos h];exact h1 h
 . rw [if_neg h];exact h2 h
theorem JC {cx:Cl} {a b:Ss} {x y:E} {δ:PP.Loc} {Q:Out->Prop} {p q:Bool} (hx:∀ {R:Bool->PP.Loc->Prop},R p δ->wT cx x δ R) (hy:∀ {R:Bool->PP.Loc->Prop},R q δ->wT cx y δ R) (ha:p = true\/q = true->wSs cx a δ Q) (hb:p = false->q = false->wSs cx b δ Q):wS cx (.ifs (.or x y) a b) δ Q:=by
 refine yL (δ0:=δ) (fun k=>(k = true->p = true\/q = true)/\(k = false->p = false/\q = false)) ?_ (fun h=>ha (h.1 rfl)) fun h=>hb (h.2 rfl).1 (h.2 rfl).2
 rw [EA]
 refine hx ?_
 cases p
 . refine hy ?_
   exact ⟨rfl,fun h=>.inr h,fun h=>⟨rfl,h⟩⟩
 . exact ⟨rfl,fun _=>.inl rfl,fun h=>by cases h⟩
theorem ui {cx:Cl} {a b:Ss} {x:E} {δ:PP.Loc} {Q:Out->Prop} {p:Bool} (hx:∀ {R:Bool->PP.Loc->Prop},R p δ->wT cx x δ R) (ha:p = true->wSs cx a δ Q) (hb:p = false->wSs cx b δ Q):wS cx (.ifs x a b) δ Q:=by
 refine yL (δ0:=δ) (fun k=>k = p) (hx ⟨rfl,rfl⟩) (fun h=>ha h.symm) fun h=>hb h.symm
noncomputable def tells (cx:Cl) (x:E) (δ:PP.Loc) (p:Bool):Prop:=∀ {R:Bool->PP.Loc->Prop},R p δ->wT cx x δ R
end PP
end
section
namespace P1
open PySem L2 PP
noncomputable def top (i:Nat):Stmt:=PySem.Challenge.pw_cutless_k31_a_close_parted.main.body.getD i (.Pass ⟨0,0,0,0⟩)
noncomputable def tsC:Ts:=(.cons (.ifs (.cmp .lt (.var 1) (.int 4)) (.cons (.app (.bin .mod (.var 1) (.int 2)) (.tup (.cons (.str "left") (.cons (.var 2) .nil))))
 (.cons (.app (.bin .fdiv (.var 1) (.int 2)) (.tup (.cons (.str "right") (.cons (.var 2) .nil))))
 .nil)) (.cons (.ifs (.cmp .lt (.var 1) (.int 6)) (.cons (.app (.bin .mod (.var 1) (.int 2)) (.tup (.cons (.str "right") (.cons (.tup (.cons (.str "yes") .nil)) .nil))))
 .nil) (.cons (.ifs (.cmp .lt (.var 1) (.int 8)) (.cons (.app (.bin .mod (.var 1) (.int 2)) (.tup (.cons (.str "left") (.cons (.tup (.cons (.str "no") .nil)) .nil))))
 .nil) .nil)
 .nil))
 .nil))
 .nil)
noncomputable def psC:List Str:=["_law_halves","_law_way","_law_claim_here"]
noncomputable def nsC:List Str:=["_law_halves","_law_way","_law_claim_here"]
noncomputable def bV:Fd:=⟨"sorted_row",["signed"],["kept","each"],
 (.cons (.new 1 (.lst .nil))
 (.cons (.for_ (.nm 2) (.sq (.blt .sorted (.cons (.var 0) .nil)))
 (.cons (.ifs (.or (.not (.var 1)) (.cmp .ne (.ix (.pk 1) (.neg (.int 1))) (.var 2)))
 (.cons (.append 1 (.var 2))
 .nil)
 .nil)
 .nil))
 (.cons (.ret (.blt .toTup (.cons (.pk 1) .nil)))
 .nil))),false⟩
noncomputable def fE:Fd:=⟨"more",["row","added"],[],
 (.cons (.ret (.call 0 (.cons (.bin .add (.blt .toLst (.cons (.var 0) .nil)) (.blt .toLst (.cons (.var 1) .nil))) .nil)))
 .nil),false⟩
noncomputable def dB:Fd:=⟨"closes",["row"],[],
 (.cons (.ifs (.or (.cmp .isin (.tup (.cons (.str "right") (.cons (.tup (.cons (.str "yes") .nil)) .nil))) (.var 0)) (.cmp .isin (.tup (.cons (.str "left") (.cons (.tup (.cons (.str "no") .nil)) .nil))) (.var 0)))
 (.cons (.ret (.bl true))
 .nil)
 .nil)
 (.cons (.ret (.blt .any (.cons (.comp 2 (.tp [1,2]) (.sq (.var 0)) .no (.and (.cmp .eq (.var 1) (.str "left")) (.cmp .isin (.tup (.cons (.str "right") (.cons (.var 2) .nil))) (.var 0)))) .nil)))
 .nil)),false⟩
noncomputable def dD:Fd:=⟨"kids_of",["tree"],[],
 (.cons (.ret (.ite (.cmp .eq (.var 0) (.glob 4)) (.tup .nil) (.ix (.var 0) (.neg (.int 1)))))
 .nil),false⟩
noncomputable def fF:Fd:=⟨"fits",["row","tree"],["rows","kids","above","kid"],
 (.cons (.ifs (.cmp .eq (.var 1) (.glob 4))
 (.cons (.ret (.call 2 (.cons (.var 0) .nil)))
 .nil)
 .nil)
 (.cons .bad
 (.cons .bad
 (.cons .bad
 (.cons .bad
 (.cons .bad
 (.cons .bad
 .nil))))))),false⟩
noncomputable def bU:Fd:=⟨"trees_within",["tree"],["found","kid"],
 (.cons (.new 1 (.lst (.cons (.var 0) .nil)))
 (.cons (.for_ (.nm 2) (.sq (.call 3 (.cons (.var 0) .nil)))
 (.cons .bad
 .nil))
 (.cons (.ret (.var 1))
 .nil))),false⟩
noncomputable def cq:Fd:=⟨"cuts_within",["tree"],[],
 (.cons (.ret (.comp 1 (.nm 1) (.sq (.call 5 (.cons (.var 0) .nil))) (.yes (.cmp .eq (.ix (.var 1) (.int 0)) (.str "cut"))) (.var 1)))
 .nil),false⟩
noncomputable def gv:Fd:=⟨"cuts",["tree"],[],
 (.cons (.ret (.blt .len (.cons (.call 6 (.cons (.var 0) .nil)) .nil)))
 .nil),false⟩
noncomputable def de:Fd:=⟨"rules_of",["I","name","first","second"],[],
 (.cons (.ret (.tup (.cons (.var 0) (.cons (.tup (.cons (.str "rule") (.cons (.str "right") (.cons (.var 0) (.cons (.var 1) (.cons (.blt .toTup (.cons (.var 2) .nil)) .nil)))))) (.cons (.tup (.cons (.str "rule") (.cons (.str "left") (.cons (.var 0) (.cons (.var 1) (.cons (.blt .toTup (.cons (.var 3) .nil)) .nil)))))) .nil)))))
 .nil),false⟩
noncomputable def bN:Fd:=⟨"shared_with",["ones","others"],[],
 (.cons (.ret (.comp 2 (.tp [2,3]) (.sq (.var 0)) (.yes (.and (.cmp .eq (.var 2) (.str "left")) (.cmp .isin (.tup (.cons (.str "right") (.cons (.var 3) .nil))) (.var 1)))) (.var 3)))
 .nil),false⟩
noncomputable def bJ:Fd:=⟨"parted_close",["ones","others"],["forward","backward"],
 (.cons (.ifs (.call 2 (.cons (.var 0) .nil))
 (.cons (.ret (.tup (.cons (.tup (.cons (.str "no") .nil)) (.cons (.glob 4) (.cons (.glob 4) .nil)))))
 .nil)
 .nil)
 (.cons (.ifs (.call 2 (.cons (.var 1) .nil))
 (.cons (.ret (.tup (.cons (.tup (.cons (.str "yes") .nil)) (.cons (.glob 4) (.cons (.glob 4) .nil)))))
 .nil)
 .nil)
 (.cons (.asg (.nm 2) (.call 9 (.cons (.var 0) (.cons (.var 1) .nil))))
 (.cons (.ifs (.var 2)
 (.cons (.ret (.tup (.cons (.ix (.var 2) (.int 0)) (.cons (.glob 4) (.cons (.glob 4) .nil)))))
 .nil)
 .nil)
 (.cons (.asg (.nm 3) (.call 9 (.cons (.var 1) (.cons (.var 0) .nil))))
 (.cons (.ret (.call 8 (.cons (.tup (.cons (.str "not") (.cons (.ix (.var 3) (.int 0)) .nil))) (.cons (.str "") (.cons (.lst (.cons (.glob 4) .nil)) (.cons (.lst (.cons (.glob 4) .nil)) .nil))))))
 .nil)))))),false⟩
noncomputable def bO:Fd:=⟨"parted_tree",["ones","others","tree"],["side","A","name","kids","is_first","told","branch","kid"],
 (.cons (.ifs (.cmp .eq (.var 2) (.glob 4))
 (.cons (.ret (.call 10 (.cons (.var 0) (.cons (.var 1) .nil))))
 .nil)
 .nil)
 (.cons .bad
 (.cons .bad
 (.cons .bad
 (.cons .bad
 (.cons .bad
 (.cons .bad
 .nil))))))),false⟩
noncomputable def dA:Fd:=⟨"parted",["ones","others","tree"],[],
 (.cons (.ifs (.not (.call 4 (.cons (.call 1 (.cons (.var 0) (.cons (.var 1) .nil))) (.cons (.var 2) .nil))))
 (.cons .bad
 .nil)
 .nil)
 (.cons (.ifs (.cmp .gt (.call 7 (.cons (.var 2) .nil)) (.int 0))
 (.cons .bad
 .nil)
 .nil)
 (.cons (.ret (.call 11 (.cons (.var 0) (.cons (.var 1) (.cons (.var 2) .nil)))))
 .nil))),false⟩
noncomputable def cA:Fd:=⟨"_law_cell",["_law_script","_law_k"],[],
 (.cons (.ifs (.cmp .lt (.var 1) (.blt .len (.cons (.var 0) .nil)))
 (.cons (.ret (.ix (.var 0) (.var 1)))
 .nil)
 .nil)
 (.cons (.ret (.bin .mod (.bin .mul (.bin .mul (.bin .add (.var 1) (.int 3)) (.bin .add (.var 1) (.int 3))) (.int 69621)) (.int 1000003)))
 .nil)),false⟩
noncomputable def cK:Fd:=⟨"_law_mix",["_law_cell_here"],["_law_far"],
 (.cons (.asg (.nm 1) (.bin .mod (.bin .mul (.bin .add (.bin .mod (.var 0) (.bin .pow (.int 10) (.int 30))) (.int 7)) (.int 618970019642690137449562111)) (.bin .add (.bin .pow (.int 10) (.int 30)) (.int 57))))
 (.cons (.ret (.bin .mod (.bin .mul (.var 1) (.var 1)) (.bin .add (.bin .pow (.int 10) (.int 31)) (.int 33))))
 .nil)),false⟩
noncomputable def cW:Fd:=⟨"_law_at",["_law_n","_law_block","_law_many"],["_law_far"],
 (.cons (.asg (.nm 3) (.lst (.cons (.int 1) (.cons (.bin .pow (.int 10) (.int 3)) (.cons (.bin .pow (.int 10) (.int 6)) (.cons (.bin .pow (.int 10) (.int 9)) (.cons (.bin .pow (.int 10) (.int 12)) (.cons (.bin .pow (.int 10) (.int 15)) (.cons (.bin .pow (.int 10) (.int 18)) (.cons (.bin .pow (.int 10) (.int 21)) (.cons (.bin .pow (.int 10) (.int 24)) .nil)))))))))))
 (.cons (.ret (.bin .mod (.bin .mod (.bin .fdiv (.var 0) (.ix (.var 3) (.var 1))) (.int 1000)) (.var 2)))
 .nil)),false⟩
noncomputable def bX:Fd:=⟨"_law_texts",["_law_n","_law_letters","_law_first","_law_many"],["_law_size","_law_at_here","_law_answer","_law_k","_law_text","_law_j","_law_width"],
 (.cons (.asg (.nm 4) (.bin .add (.int 1) (.call 15 (.cons (.var 0) (.cons (.int 0) (.cons (.int 8) .nil))))))
 (.cons (.asg (.nm 5) (.call 15 (.cons (.var 0) (.cons (.int 1) (.cons (.var 4) .nil)))))
 (.cons (.new 6 (.lst .nil))
 (.cons (.for_ (.nm 7) (.rng (.var 3))
 (.cons (.asg (.nm 8) (.str ""))
 (.cons (.for_ (.nm 9) (.rng (.var 4))
 (.cons (.asg (.nm 10) (.blt .len (.cons (.var 1) .nil)))
 (.cons (.ifs (.cmp .eq (.var 9) (.int 0))
 (.cons (.asg (.nm 10) (.var 2))
 .nil)
 .nil)
 (.cons (.asg (.nm 8) (.bin .add (.var 8) (.ix (.var 1) (.bin .mod (.bin .add (.call 15 (.cons (.var 0) (.cons (.bin .add (.int 2) (.bin .mod (.var 9) (.int 6))) (.cons (.var 10) .nil)))) (.bin .mul (.var 7) (.blt .toInt (.cons (.cmp .eq (.var 9) (.var 5)) .nil)))) (.var 10)))))
 .nil))))
 (.cons (.append 6 (.var 8))
 .nil))))
 (.cons (.ret (.var 6))
 .nil))))),false⟩
noncomputable def bW:Fd:=⟨"_law_words",["_law_script"],[],
 (.cons (.ret (.call 16 (.cons (.call 14 (.cons (.call 13 (.cons (.var 0) (.cons (.int 0) .nil))) .nil)) (.cons (.str "bcdfghjklmpqrtvwxz") (.cons (.int 18) (.cons (.int 3) .nil))))))
 .nil),false⟩
noncomputable def bc:Fd:=⟨"_law_names_drawn",["_law_script"],["_law_n"],
 (.cons (.asg (.nm 1) (.call 14 (.cons (.call 13 (.cons (.var 0) (.cons (.int 1) .nil))) .nil)))
 (.cons (.ifs (.cmp .eq (.bin .mod (.bin .fdiv (.var 1) (.bin .pow (.int 10) (.int 27))) (.int 4)) (.int 0))
 (.cons (.ret (.lst (.cons (.str "n0") (.cons (.str "n1") (.cons (.str "n2") (.cons (.str "n3") .nil))))))
 .nil)
 .nil)
 (.cons (.ret (.call 16 (.cons (.var 1) (.cons (.str "abcdefghijklmnopqrstuvwxyz123456789") (.cons (.int 26) (.cons (.int 4) .nil))))))
 .nil))),false⟩
noncomputable def aW:Fd:=⟨"_law_bound",["_law_claim_here","_law_name","_law_deep"],["_law_terms","_law_term","_law_inner"],
 (.cons (.ifs (.cmp .eq (.ix (.var 0) (.int 0)) (.str "word"))
 (.cons (.new 3 (.lst .nil))
 (.cons (.for_ (.nm 4) (.sq (.ix (.var 0) (.int 2)))
 (.cons (.ifs (.cmp .eq (.var 4) (.var 1))
 (.cons (.asg (.nm 4) (.blt .toStr (.cons (.var 2) .nil)))
 .nil)
 .nil)
 (.cons (.append 3 (.var 4))
 .nil)))
 (.cons (.ret (.tup (.cons (.str "word") (.cons (.ix (.var 0) (.int 1)) (.cons (.blt .toTup (.cons (.pk 3) .nil)) .nil)))))
 .nil)))
 .nil)
 (.cons (.asg (.nm 5) (.bin .add (.var 2) (.blt .toInt (.cons (.cmp .isin (.ix (.var 0) (.int 0)) (.tup (.cons (.str "all") (.cons (.str "some") .nil)))) .nil))))
 (.cons (.ret (.bin .add (.tup (.cons (.ix (.var 0) (.int 0)) .nil)) (.blt .toTup (.cons (.comp 1 (.nm 6) (.sq (.sl (.var 0) (.yes (.int 1)) .no)) .no (.call 19 (.cons (.var 6) (.cons (.var 1) (.cons (.var 5) .nil))))) .nil))))
 .nil))),false⟩
noncomputable def cy:Fd:=⟨"_law_word",["_law_n","_law_words_here","_law_names"],["_law_many","_law_at_here","_law_terms","_law_k","_law_pick"],
 (.cons (.asg (.tp [0,3]) (.blt .dvm (.cons (.var 0) (.cons (.int 4) .nil))))
 (.cons (.asg (.tp [0,4]) (.blt .dvm (.cons (.var 0) (.cons (.blt .len (.cons (.var 1) .nil)) .nil))))
 (.cons (.new 5 (.lst .nil))
 (.cons (.for_ (.nm 6) (.rng (.var 3))
 (.cons (.asg (.tp [0,7]) (.blt .dvm (.cons (.var 0) (.cons (.blt .len (.cons (.var 2) .nil)) .nil))))
 (.cons (.append 5 (.ix (.var 2) (.var 7)))
 .nil)))
 (.cons (.ret (.tup (.cons (.str "word") (.cons (.ix (.var 1) (.var 4)) (.cons (.blt .toTup (.cons (.pk 5) .nil)) .nil)))))
 .nil))))),false⟩
noncomputable def bY:Fd:=⟨"_law_claim",["_law_n","_law_words_here","_law_names","_law_deep"],["_law_kind","_law_one"],
 (.cons (.asg (.tp [0,4]) (.blt .dvm (.cons (.var 0) (.cons (.int 13) .nil))))
 (.cons (.ifs (.cmp .lt (.var 4) (.int 2))
 (.cons (.ret (.ix (.lst (.cons (.tup (.cons (.str "yes") .nil)) (.cons (.tup (.cons (.str "no") .nil)) .nil))) (.var 4)))
 .nil)
 .nil)
 (.cons (.ifs (.or (.cmp .eq (.var 3) (.int 0)) (.cmp .lt (.var 4) (.int 7)))
 (.cons (.ret (.call 20 (.cons (.var 0) (.cons (.var 1) (.cons (.var 2) .nil)))))
 .nil)
 .nil)
 (.cons (.asg (.nm 5) (.call 21 (.cons (.var 0) (.cons (.var 1) (.cons (.var 2) (.cons (.bin .sub (.var 3) (.int 1)) .nil))))))
 (.cons (.ifs (.cmp .eq (.var 4) (.int 7))
 (.cons (.ret (.tup (.cons (.str "not") (.cons (.var 5) .nil))))
 .nil)
 .nil)
 (.cons (.ifs (.cmp .lt (.var 4) (.int 11))
 (.cons (.ret (.tup (.cons (.ix (.lst (.cons (.str "and") (.cons (.str "or") (.cons (.str "if") .nil)))) (.bin .sub (.var 4) (.int 8))) (.cons (.var 5) (.cons (.call 21 (.cons (.bin .fdiv (.var 0) (.bin .pow (.int 10) (.int 7))) (.cons (.var 1) (.cons (.var 2) (.cons (.bin .sub (.var 3) (.int 1)) .nil))))) .nil)))))
 .nil)
 .nil)
 (.cons (.ret (.tup (.cons (.ix (.lst (.cons (.str "all") (.cons (.str "some") .nil))) (.bin .sub (.var 4) (.int 11))) (.cons (.call 19 (.cons (.var 5) (.cons (.ix (.var 2) (.bin .mod (.bin .fdiv (.var 0) (.bin .pow (.int 10) (.int 8))) (.blt .len (.cons (.var 2) .nil)))) (.cons (.int 0) .nil)))) .nil))))
 .nil))))))),false⟩
noncomputable def cz:Fd:=⟨"_law_more",["_law_row","_law_added"],[],
 (.cons (.ret (.blt .toTup (.cons (.ssd (.bin .add (.blt .toLst (.cons (.var 0) .nil)) (.blt .toLst (.cons (.var 1) .nil)))) .nil)))
 .nil),false⟩
noncomputable def bP:Fd:=⟨"_law_closes",["_law_row"],["_law_side","_law_claim_here"],
 (.cons (.for_ (.tp [1,2]) (.sq (.var 0))
 (.cons (.ifs (.and (.cmp .eq (.var 1) (.str "left")) (.or (.cmp .eq (.var 2) (.tup (.cons (.str "no") .nil))) (.cmp .isin (.tup (.cons (.str "right") (.cons (.var 2) .nil))) (.var 0))))
 (.cons (.ret (.bl true))
 .nil)
 .nil)
 (.cons (.ifs (.and (.cmp .eq (.var 1) (.str "right")) (.cmp .eq (.var 2) (.tup (.cons (.str "yes") .nil))))
 (.cons (.ret (.bl true))
 .nil)
 .nil)
 .nil)))
 (.cons (.ret (.bl false))
 .nil)),false⟩
noncomputable def br:Fd:=⟨"_law_close_due",["_law_ones","_law_others"],["_law_side","_law_claim_here","_law_turned","_law_first"],
 (.cons (.ifs (.call 23 (.cons (.var 0) .nil))
 (.cons (.ret (.tup (.cons (.tup (.cons (.str "no") .nil)) (.cons (.tup (.cons (.str "close") .nil)) (.cons (.tup (.cons (.str "close") .nil)) .nil)))))
 .nil)
 .nil)
 (.cons (.ifs (.call 23 (.cons (.var 1) .nil))
 (.cons (.ret (.tup (.cons (.tup (.cons (.str "yes") .nil)) (.cons (.tup (.cons (.str "close") .nil)) (.cons (.tup (.cons (.str "close") .nil)) .nil)))))
 .nil)
 .nil)
 (.cons (.for_ (.tp [2,3]) (.sq (.var 0))
 (.cons (.ifs (.and (.cmp .eq (.var 2) (.str "left")) (.cmp .isin (.tup (.cons (.str "right") (.cons (.var 3) .nil))) (.var 1)))
 (.cons (.ret (.tup (.cons (.var 3) (.cons (.tup (.cons (.str "close") .nil)) (.cons (.tup (.cons (.str "close") .nil)) .nil)))))
 .nil)
 .nil)
 .nil))
 (.cons (.for_ (.tp [2,3]) (.sq (.var 1))
 (.cons (.ifs (.and (.cmp .eq (.var 2) (.str "left")) (.cmp .isin (.tup (.cons (.str "right") (.cons (.var 3) .nil))) (.var 0)))
 (.cons (.asg (.nm 4) (.tup (.cons (.str "not") (.cons (.var 3) .nil))))
 (.cons (.asg (.nm 5) (.tup (.cons (.str "rule") (.cons (.str "right") (.cons (.var 4) (.cons (.str "") (.cons (.tup (.cons (.tup (.cons (.str "close") .nil)) .nil)) .nil)))))))
 (.cons (.ret (.tup (.cons (.var 4) (.cons (.var 5) (.cons (.tup (.cons (.str "rule") (.cons (.str "left") (.cons (.var 4) (.cons (.str "") (.cons (.tup (.cons (.tup (.cons (.str "close") .nil)) .nil)) .nil)))))) .nil)))))
 .nil)))
 .nil)
 .nil))
 (.cons (.ret .non)
 .nil))))),false⟩
noncomputable def ts2:Ts:=(.cons (.for_ 4 (.rng2 (.int 4) (.blt .max (.cons (.int 8) (.cons (.blt .min (.cons (.blt .len (.cons (.var 0) .nil)) (.cons (.int 40) .nil))) .nil)))) (.cons (.asg 5 (.call 14 (.cons (.call 13 (.cons (.var 0) (.cons (.var 4) .nil))) .nil)))
 (.cons (.asg 6 (.ix (.lst (.cons (.str "left") (.cons (.str "right") .nil))) (.bin .mod (.bin .fdiv (.var 5) (.bin .pow (.int 10) (.int 25))) (.int 2))))
 (.cons (.asg 7 (.call 21 (.cons (.var 5) (.cons (.var 1) (.cons (.var 2) (.cons (.int 1) .nil))))))
 (.cons (.ifs (.or (.cmp .notin (.var 7) (.tup (.cons (.tup (.cons (.str "yes") .nil)) (.cons (.tup (.cons (.str "no") .nil)) .nil)))) (.cmp .eq (.bin .mod (.bin .fdiv (.var 5) (.bin .pow (.int 10) (.int 26))) (.int 4)) (.int 0))) (.cons (.app (.bin .mod (.bin .fdiv (.var 5) (.bin .pow (.int 10) (.int 24))) (.int 2)) (.tup (.cons (.var 6) (.cons (.var 7) .nil))))
 .nil) .nil)
 .nil)))))
 (.cons (.asg 8 (.call 14 (.cons (.call 13 (.cons (.var 0) (.cons (.int 2) .nil))) .nil)))
 (.cons (.clo 23 (.cons (.bin .mod (.bin .fdiv (.var 8) (.bin .pow (.int 10) (.int 22))) (.int 9)) (.cons (.call 21 (.cons (.var 8) (.cons (.var 1) (.cons (.var 2) (.cons (.int 2) .nil))))) .nil)))
 (.cons (.asg 5 (.call 14 (.cons (.call 13 (.cons (.var 0) (.cons (.int 3) .nil))) .nil)))
 (.cons (.ifs (.cmp .gt (.bin .mod (.bin .fdiv (.var 5) (.bin .pow (.int 10) (.int 26))) (.int 3)) (.int 0)) (.cons (.clo 23 (.cons (.bin .mod (.bin .fdiv (.var 8) (.bin .pow (.int 10) (.int 22))) (.int 9)) (.cons (.call 21 (.cons (.var 5) (.cons (.var 1) (.cons (.var 2) (.cons (.int 2) .nil))))) .nil)))
 .nil) (.cons (.ifs (.cmp .eq (.bin .mod (.bin .fdiv (.var 5) (.bin .pow (.int 10) (.int 25))) (.int 2)) (.int 0)) (.cons (.clo 23 (.cons (.bin .mod (.bin .fdiv (.var 5) (.bin .pow (.int 10) (.int 22))) (.int 9)) (.cons (.call 21 (.cons (.var 5) (.cons (.var 1) (.cons (.var 2) (.cons (.int 2) .nil))))) .nil)))
 .nil) .nil)
 .nil))
 (.cons (.lasg 9 (.call 22 (.cons (.ix (.var 3) (.int 0)) (.cons (.lst .nil) .nil))))
 (.cons (.lasg 10 (.call 22 (.cons (.ix (.var 3) (.int 1)) (.cons (.lst .nil) .nil))))
 (.cons (.rest (.cons (.asg (.nm 11) (.call 24 (.cons (.var 9) (.cons (.var 10) .nil))))
 (.cons (.ifs (.cmp .is (.var 11) .non)
 (.cons (.ret (.bl true))
 .nil)
 .nil)
 (.cons (.asg (.nm 12) (.call 12 (.cons (.var 9) (.cons (.var 10) (.cons (.tup (.cons (.str "close") .nil)) .nil)))))
 (.cons (.ret (.and (.blt .isTup (.cons (.var 12) .nil)) (.cmp .eq (.var 12) (.var 11))))
 .nil))))) .nil))))))))
noncomputable def ss2:Ss:=(.cons (.asg (.nm 1) (.call 17 (.cons (.var 0) .nil)))
 (.cons (.asg (.nm 2) (.call 18 (.cons (.var 0) .nil)))
 .nil))
noncomputable def d_law:Fd:=⟨"law",["_law_script"],["_law_words_here","_law_names","_law_halves","_law_k","_law_n","_law_side","_law_claim_here","_law_m","_law_ones","_law_others","_law_due","_law_answer"],
 (.cons (.opq (evB (clF 2 2 tsC) 3 ts2 ss2)) .nil),false⟩
noncomputable def Gd:List Fd:=[bV,fE,dB,dD,fF,bU,cq,gv,de,bN,bJ,bO,dA,cA,cK,cW,bX,bW,bc,aW,cy,bY,cz,bP,br,d_law]
noncomputable def Gs:List Fd:=[bV,fE,dB,dD,fF,bU,cq,gv,de,bN,bJ,bO,dA,cA,cK,cW,bX,bW,bc,aW,cy,bY,cz,bP,br,d_law]
noncomputable instance tbs:Tbs:=⟨[],[],[]⟩
noncomputable def gls:List D:=[.tup [.str "yes",.str "no",.str "word"],.tup [.str "all",.str "some"],.tup [.tup [.str "right",.str "and"],.tup [.str "left",.str "or"],.tup [.str "left",.str "if"]],.tup [.tup [.str "right",.str "all"],.tup [.str "left",.str "some"]],.tup [.str "close"]]
noncomputable def gns:List Str:=["LEAVES","BINDERS","FORKS","OWN","CLOSE"]
end P1
end
section
namespace P1
open PySem L2 PP
inductive B | and | or | imp
noncomputable def B.s:B->Str | .and=>"and" | .or=>"or" | .imp=>"if"
noncomputable def qs (b:Bool):Str:=if b then "all" else "some"
inductive F where
 | yes | no | word (w:Str) (ts:List Str) | neg (a:F) | q (b:Bool) (a:F) | bi (b:B) (x y:F)
noncomputable def hd:F->Str
 | .yes=>"yes" | .no=>"no" | .word _ _=>"word" | .neg _=>"not" | .q b _=>qs b | .bi b _ _=>b.s
noncomputable def enc:F->D
 | .yes=>.tup [.str "yes"]
 | .no=>.tup [.str "no"]
 | .word w ts=>.tup [.str "word",.str w,.tup (ts.map .str)]
 | .neg a=>.tup [.str "not",enc a]
 | .q b a=>.tup [.str (qs b),enc a]
 | .bi b x y=>.tup [.str b.s,enc x,enc y]
noncomputable def tl:F->List D
 | .yes | .no=>[]
 | .word w ts=>[.str w,.tup (ts.map .str)]
 | .neg a=>[enc a]
 | .q _ a=>[enc a]
 | .bi _ x y=>[enc x,enc y]
theorem fD (A:F):enc A = .tup (.str (hd A)::tl A):=by cases A<;>rfl
noncomputable def kd:F->Nat
 | .yes=>0 | .no=>1 | .word _ _=>2 | .neg _=>3 | .bi _ _ _=>4 | .q _ _=>5
noncomputable def kdS (s:Str):Nat:=if s = "yes" then 0 else if s = "no" then 1 else if s = "word" then 2 else if s = "not" then 3 else if s = "all" then 5 else if s = "some" then 5 else 4
theorem AV:∀ A:F,kdS (hd A) = kd A
 | .yes=>(by decide +kernel:kdS "yes" = 0)
 | .no=>(by decide +kernel:kdS "no" = 1)
 | .word _ _=>(by decide +kernel:kdS "word" = 2)
 | .neg _=>(by decide +kernel:kdS "not" = 3)
 | .q true _=>(by decide +kernel:kdS "all" = 5)
 | .q false _=>(by decide +kernel:kdS "some" = 5)
 | .bi .and _ _=>(by decide +kernel:kdS "and" = 4)
 | .bi .or _ _=>(by decide +kernel:kdS "or" = 4)
 | .bi .imp _ _=>(by decide +kernel:kdS "if" = 4)
theorem iY {A B:F} (h:hd A = hd B):kd A = kd B:=by rw [<- AV A,<- AV B,h]
noncomputable def sz:F->Nat
 | .neg a=>sz a+1
 | .q _ a=>sz a+1
 | .bi _ x y=>sz x+sz y+1
 | _=>1
theorem iN (x:Str):dep (.str x) = 0:=by unfold dep;rfl
theorem sL:∀ ts:List Str,bI (ts.map D.str) = 0
 | []=>by unfold bI;rfl
 | t::ts=>by rw [aI];unfold bI;rw [sL ts,iN];rfl
noncomputable def hF:F->Nat
 | .neg a=>hF a+1
 | .q _ a=>hF a+1
 | .bi _ x y=>max (hF x) (hF y)+1
 | _=>1
theorem sE:∀ A:F,hF A<=sz A
 | .yes | .no | .word _ _=>ay _
 | .neg a=>by have:=sE a;simp only [hF,sz];omega
 | .q _ a=>by have:=sE a;simp only [hF,sz];omega
 | .bi _ x y=>by have:=sE x;have:=sE y;simp only [hF,sz];omega
theorem fx:∀ A:F,dep (enc A)<=hF A+1
 | .yes | .no=>by unfold enc;simp [dep,bI,hF]
 | .word w ts=>by unfold enc;simp [dep,bI,sL,hF]
 | .neg a=>by have:=fx a;unfold enc;simp [dep,bI,hF];omega
 | .q b a=>by have:=fx a;unfold enc;simp [dep,bI,hF];omega
 | .bi b x y=>by have:=fx x;have:=fx y;unfold enc;simp [dep,bI,hF];omega
theorem ql (A:F):dep (enc A)<=sz A+1:=by have:=fx A;have:=sE A;omega
theorem vU:∀ ts us:List Str,eZ (ts.map D.str) (us.map D.str) = true->ts = us
 | [],[],_=>rfl
 | [],_::_,h=>by unfold eZ at h;cases h
 | _::_,[],h=>by unfold eZ at h;cases h
 | t::ts,u::us,h=>by
   rw [aI,aI] at h
   unfold eZ eqD at h
   rw [aa] at h
   rw [show t = u by simpa using h.1,vU ts us h.2]
theorem iZ {A B:F} (h:eqD (enc A) (enc B) = true):hd A = hd B/\eZ (tl A) (tl B) = true:=by
 rw [fD,fD] at h
 unfold eqD eZ eqD at h
 rw [aa] at h
 exact ⟨by simpa using h.1,h.2⟩
theorem Ig {a b:D} (h:eZ [a] [b] = true):eqD a b = true:=by
 unfold eZ at h
 rw [aa] at h
 exact h.1
theorem Ie {a b x y:D} (h:eZ [a,x] [b,y] = true):eqD a b = true/\eqD x y = true:=by
 unfold eZ at h
 rw [aa] at h
 exact ⟨h.1,Ig h.2⟩
theorem IB:∀ b c:B,b.s = c.s->b = c
 | .and,.and,_ | .or,.or,_ | .imp,.imp,_=>rfl
 | .and,.or,h | .and,.imp,h | .or,.and,h | .or,.imp,h | .imp,.and,h | .imp,.or,h=>absurd h (by decide +kernel)
theorem GR:∀ b c:Bool,qs b = qs c->b = c:=by decide +kernel
theorem jh:∀ A B:F,eqD (enc A) (enc B) = true->A = B
 | .yes,B,h=>by
   have this:=iY (iZ h).1
   cases B with
   | yes=>rfl
   | _=>exact absurd this (by simp [kd])
 | .no,B,h=>by
   have this:=iY (iZ h).1
   cases B with
   | no=>rfl
   | _=>exact absurd this (by simp [kd])
 | .word w ts,B,h=>by
   have this:=iY (iZ h).1
   have h2:=(iZ h).2
   cases B with
   | word v us =>
     obtain ⟨h3,h4⟩:=Ie h2
     unfold eqD at h3 h4
     rw [show w = v by simpa using h3,vU ts us h4]
   | _=>exact absurd this (by simp [kd])
 | .neg a,B,h=>by
   have this:=iY (iZ h).1
   have h2:=(iZ h).2
   cases B with
   | neg b=>rw [jh a b (Ig h2)]
   | _=>exact absurd this (by simp [kd])
 | .q b a,B,h=>by
   have this':=(iZ h).1
   have this:=iY this'
   have h2:=(iZ h).2
   cases B with
   | q c d=>rw [GR b c this',jh a d (Ig h2)]
   | _=>exact absurd this (by simp [kd])
 | .bi b x y,B,h=>by
   have this':=(iZ h).1
   have this:=iY this'
   have h2:=(iZ h).2
   cases B with
   | bi c u v =>
     obtain ⟨h3,h4⟩:=Ie h2
     rw [IB b c this',jh x u h3,jh y v h4]
   | _=>exact absurd this (by simp [kd])
noncomputable def sd (L:Bool):Str:=if L then "left" else "right"
abbrev It:=Bool × F
noncomputable def itD (p:It):D:=.tup [.str (sd p.1),enc p.2]
theorem GA:∀ b c:Bool,sd b = sd c->b = c:=by decide +kernel
theorem EU {p q:It} (h:eqD (itD p) (itD q) = true):p = q:=by
 unfold itD eqD at h
 obtain ⟨h1,h2⟩:=Ie h
 unfold eqD at h1
 obtain ⟨a,A⟩:=p
 obtain ⟨b,B⟩:=q
 rw [show a = b from GA a b (by simpa using h1),show A = B from jh A B h2]
noncomputable def low (ps:List It):Prop:=∀ p∈ps,sz p.2<=61
theorem hJ (p:It) (h:sz p.2<=61):dep (itD p)<=64:=by
 have:=ql p.2
 unfold itD
 simp only [dep,bI,iN]
 omega
theorem qk:∀ {ps:List It},low ps->bI (ps.map itD)<=64
 | [],_=>by show bI ([]:List D)<=64;unfold bI;omega
 | p::ps,h=>by
   rw [aI]
   unfold bI
   have:=hJ p (h p ak)
   have:=qk (ps:=ps) fun q hq=>h q (av _ hq)
   omega
theorem eq_self (p:It) (h:sz p.2<=61):eqD (itD p) (itD p) = true:=iA _ (by have:=hJ p h;omega)
noncomputable def has (ps:List It) (q:It):Bool:=(ps.map itD).any fun y=>eqD y (itD q)
theorem gb {ps:List It} {q:It} (h:low ps):has ps q = true↔q∈ps:=by
 unfold has
 rw [cR]
 constructor
 . rintro ⟨y,hy,e⟩
   obtain ⟨p,hp,rfl⟩:=aR.mp hy
   rw [<- EU e]
   exact hp
 . intro hq
   exact ⟨_,jq hq,eq_self q (h q hq)⟩
theorem sC {ps:List It} {q:It} (h:low ps) (hq:sz q.2<=61):dep (itD q)<=150/\bI (ps.map itD) < 99999:=⟨by have:=hJ q hq;omega,by have:=qk h;omega⟩
theorem ltn (ys:List D):(dq [] ys).isSome = true:=by cases ys<;>(unfold dq;rfl)
theorem Lf (ys:List D):(dq ys []).isSome = true:=by cases ys<;>(unfold dq;rfl)
theorem ltc {x y:D} {xs ys:List D} (h:(ltD x y).isSome = true) (h2:(dq xs ys).isSome = true):(dq (x::xs) (y::ys)).isSome = true:=by
 unfold dq
 split
 . exact h2
 . exact h
theorem lts {s t:Str} {xs ys:List D} (h:s = t->(dq xs ys).isSome = true):(dq (.str s::xs) (.str t::ys)).isSome = true:=by
 unfold dq
 split
 . rename_i e
   exact h (by unfold eqD at e;simpa using e)
 . unfold ltD;rfl
theorem vC:∀ xs ys:List Str,(dq (xs.map D.str) (ys.map D.str)).isSome = true
 | [],ys=>ltn _
 | xs,[]=>Lf _
 | x::xs,y::ys=>lts fun _=>vC xs ys
theorem gW {xs ys:List D} (h:(dq xs ys).isSome = true):(ltD (.tup xs) (.tup ys)).isSome = true:=by unfold ltD;exact h
theorem kh:∀ A B:F,(ltD (enc A) (enc B)).isSome = true
 | .yes,B=>by rw [fD B];exact gW (lts fun _=>ltn _)
 | .no,B=>by rw [fD B];exact gW (lts fun _=>ltn _)
 | .word w ts,B=>by
   rw [fD B]
   refine gW (lts fun e=>?_)
   have e:hd (.word w ts) = hd B:=e
   cases B with
   | word v us=>exact lts fun _=>ltc (gW (vC ts us)) (ltn _)
   | _=>exact absurd (iY e) (by simp [kd])
 | .neg a,B=>by
   rw [fD B]
   refine gW (lts fun e=>?_)
   have e:hd (.neg a) = hd B:=e
   cases B with
   | neg b=>exact ltc (kh a b) (ltn _)
   | _=>exact absurd (iY e) (by simp [kd])
 | .q b a,B=>by
   rw [fD B]
   refine gW (lts fun e=>?_)
   have e:hd (.q b a) = hd B:=e
   cases B with
   | q c d=>exact ltc (kh a d) (ltn _)
   | _=>exact absurd (iY e) (by simp [kd])
 | .bi b x y,B=>by
   rw [fD B]
   refine gW (lts fun e=>?_)
   have e:hd (.bi b x y) = hd B:=e
   cases B with
   | bi c u v=>exact ltc (kh x u) (ltc (kh y v) (ltn _))
   | _=>exact absurd (iY e) (by simp [kd])
theorem pS {row:List It} (h:low row) (hl:row.length < 64):sortable (row.map itD) = true:=by
 unfold PP.sortable
 simp only [aa,decide_eq_true_eq,bD]
 refine ⟨⟨by rw [aj];exact hl,fun x hx=>?_⟩,fun x hx y hy=>?_⟩
 . have k:∀ d∈row.map itD,bo d = 3:=fun d hd=>by
    obtain ⟨p,_,rfl⟩:=aR.mp hd
    rfl
   cases e:row.map itD with
   | nil=>rw [e] at hx;cases hx
   | cons z zs =>
     have e2:bo ((z::zs).getD 0 .non) = 3:=k z (by rw [e];exact ak)
     rw [k x hx,e2]
     exact ⟨rfl,rfl⟩
 . obtain ⟨p,hp,rfl⟩:=aR.mp hx
   obtain ⟨q,hq,rfl⟩:=aR.mp hy
   have:=hJ p (h p hp)
   have:=hJ q (h q hq)
   unfold iT
   rw [if_pos (by omega)]
   exact gW (lts fun _=>ltc (kh _ _) (ltn _))
instance:Inhabited F:=⟨.yes⟩
theorem iJ {α:Type} [Inhabited α] (g:α->D) (xs:List α):∃ ys:List α,dQ (xs.map g) = ys.map g/\ys.Perm xs:=by
 unfold dQ
 rw [aj]
 split
 . exact ⟨xs,rfl,.refl _⟩
 . have p:=fh (lt:=gp (xs.map g)) xs.length
   refine ⟨(ans (gp (xs.map g)) (PySem.W.kas_sort xs.length)).toList.map fun i=>xs.getD i default,?_,?_⟩
   . rw [kL]
     refine yq fun i hi=>?_
     have hi:i < xs.length:=dR.mp (p.mem_iff.mp hi)
     show (xs.map g).getD i .non = g (xs.getD i default)
     rw [dS,aS,dS,ax hi]
     rfl
   . refine (p.map _).trans ?_
     rw [oA default (fun x=>x) xs,List.map_id']
noncomputable def srt (xs:List It):List It:=Classical.choose (iJ itD xs)
theorem Gj (xs:List It):dQ (xs.map itD) = (srt xs).map itD:=(pA (iJ itD xs)).1
theorem jv (xs:List It):(srt xs).Perm xs:=(pA (iJ itD xs)).2
noncomputable def isL (acc:List It) (x:It):Bool:=match acc.getLast? with
 | some y=>eqD (itD y) (itD x)
 | none=>false
noncomputable def dd:List It->List It->List It
 | acc,[]=>acc
 | acc,x::xs=>dd (if isL acc x = true then acc else acc++[x]) xs
noncomputable def mo (l:List It):List It:=dd [] (srt l)
theorem DW {acc:List It} {x:It} (h:isL acc x = true):x∈acc:=by
 unfold isL at h
 split at h
 . rename_i y e
   rw [<- EU h]
   exact List.mem_of_getLast? e
 . cases h
theorem Bo {p:It}:∀ (xs acc:List It),p∈dd acc xs↔p∈acc\/p∈xs
 | [],acc=>by simp [dd]
 | x::xs,acc=>by
   unfold dd
   rw [Bo xs]
   split
   . rename_i h
     have:=DW h
     constructor
     . rintro (z | z)
       . exact .inl z
       . exact .inr (av _ z)
     . rintro (z | z)
       . exact .inl z
       . rcases aQ.mp z with z | z
         . rw [z];exact .inl this
         . exact .inr z
   . rw [cg,dE,aQ,or_assoc]
theorem Bp:∀ (xs acc:List It),(dd acc xs).length<=acc.length+xs.length
 | [],acc=>by simp [dd]
 | x::xs,acc=>by
   unfold dd
   have:=Bp xs (if isL acc x = true then acc else acc++[x])
   have h2:(if isL acc x = true then acc else acc++[x]).length<=acc.length+1:=by
    split
    . omega
    . rw [az];simp
   rw [aw]
   omega
theorem AB {p:It} {l:List It}:p∈mo l↔p∈l:=by
 unfold mo
 rw [Bo,(jv l).mem_iff]
 simp
theorem HI (l:List It):(mo l).length<=l.length:=by
 unfold mo
 have:=Bp (srt l) []
 rw [(jv l).length_eq] at this
 simpa using this
theorem AD {l:List It} (h:low l):low (mo l):=fun p hp=>h p (AB.mp hp)
theorem low.app {a b:List It} (h:low a) (h2:low b):low (a++b):=fun p hp=>(cg.mp hp).elim (h p) (h2 p)
theorem low.one {p:It} (h:sz p.2<=61):low [p]:=fun q hq=>by rw [dE.mp hq];exact h
theorem vO:∀ ts:List Str,hbL (ts.map D.str) = true
 | []=>by unfold hbL;rfl
 | t::ts=>by rw [aI];unfold hbL;rw [vO ts];unfold hb;rfl
theorem km:∀ A:F,hb (enc A) = true
 | .yes | .no=>by unfold enc;decide +kernel
 | .word w ts=>by unfold enc;simp only [hb,hbL,vO,bq]
 | .neg a=>by unfold enc;simp only [hb,hbL,km a,bq]
 | .q b a=>by unfold enc;simp only [hb,hbL,km a,bq]
 | .bi b x y=>by unfold enc;simp only [hb,hbL,km x,km y,bq]
theorem Kb (p:It):hb (itD p) = true:=by unfold itD;simp only [hb,hbL,km,bq]
end P1
end
section
namespace P1
open PySem L2 PP
theorem DS {l:List D} {y:D}:atI (l++[y]) (-1) = some y:=by
 unfold atI ixN
 rw [if_neg (by decide),if_pos (by simp;omega)]
 show (l++[y])[(-1+((l++[y]).length:Int)).toNat]? = some y
 have e:(-1+((l++[y]).length:Int)).toNat = l.length:=by rw [az];simp;omega
 rw [e,aU (ay _),Nat.sub_self]
 rfl
theorem JJ {p q:It} (hp:sz p.2<=61) (hq:sz q.2<=61) {Q:Bool->Prop} (k:Q (!eqD (itD p) (itD q))):gf .ne (itD p) (itD q) Q:=by
 refine ⟨_,?_,k⟩
 show (if gc (itD p) (itD q) = true then some (!eqD (itD p) (itD q)) else none) = _
 have:=hJ p hp
 have:=hJ q hq
 rw [if_pos (by unfold gc;rw [show kin (itD p) (itD q) = true from rfl,jQ,aa,decide_eq_true_eq,decide_eq_true_eq];omega)]
theorem s64:(1000:Nat) < sizeLine:=by decide +kernel
theorem Ba (l:List It) (y x:It):isL (l++[y]) x = eqD (itD y) (itD x):=by
 unfold isL
 rw [List.getLast?_append,List.getLast?_singleton]
 rfl
theorem low.tail {x:It} {xs:List It} (h:low (x::xs)):low xs:=fun p hp=>h p (av _ hp)
theorem Ac (n:Nat) (l:List It) (h:low l) (hl:l.length < 64):PP.run Gs gls (n+1) 0 [.lst (l.map itD)] = some (.tup ((mo l).map itD)):=by
 apply dJ
 refine bE bV rfl rfl rfl ?_;simp only [bV,init,SI,Nat.reduceAdd,Nat.reduceSub]
 simp only [↓WS,ite_true,ite_false,ae,decide_eq_true_eq,↓reduceIte]
 refine ⟨by decide,pS h hl,?_⟩
 rw [Gj]
 refine ic (g:=itD) (fun rest δ=>∃ (acc:List It) (s:Sl),δ = [.val (.lst (l.map itD)),.own (acc.map itD),s]/\low acc/\low rest/\dd acc rest = mo l/\acc.length+rest.length < 64) ?_ ?_ _ _ ⟨[],_,rfl,(fun p hp=>by cases hp),(fun p hp=>h p ((jv l).mem_iff.mp hp)),rfl,by rw [aF,(jv l).length_eq];omega⟩
 . rintro x rest δ ⟨acc,s,rfl,ha,hr,e,hlen⟩
   rw [aw] at hlen
   have hx:=hr x ak
   have ss:=s64
   rw [dd] at e
   have app:isL acc x = false->∃ (acc':List It) (s:Sl),([.val (.lst (l.map itD)),.own (acc.map itD++[itD x]),.val (itD x)]:PP.Loc) = [.val (.lst (l.map itD)),.own (acc'.map itD),s]/\low acc'/\low rest/\dd acc' rest = mo l/\acc'.length+rest.length < 64:=fun z=>by
    rw [z,if_neg ai] at e
    exact ⟨acc++[x],_,by rw [bS];rfl,ha.app (.one hx),hr.tail,e,by rw [az];simp only [aw,aF];omega⟩
   rcases List.eq_nil_or_concat acc with rfl | ⟨l',y,rfl⟩
   . simp only [kK,↓WS,ite_true,ite_false,ae,decide_eq_true_eq,↓reduceIte]
     exact ⟨by decide,app rfl⟩
   . rw [List.concat_eq_append] at e hlen app ha ⊢
     have hy:=ha y (by simp)
     rw [bS] at app ⊢
     have hne:(!!(l'.map itD++[y].map itD).isEmpty) = false:=by cases l'<;>rfl
     simp only [hne,↓WS,ite_true,ite_false,ae,decide_eq_true_eq,↓reduceIte]
     refine ⟨itD y,DS,JJ hy hx ?_⟩
     rw [Ba] at app e
     cases eb:eqD (itD y) (itD x) with
     | true =>
       rw [eb,if_pos rfl] at e
       exact ⟨l'++[y],_,by rw [bS],ha,hr.tail,e,by omega⟩
     | false=>exact ⟨by simp only [az,aj,aw,aF] at hlen ⊢;omega,app eb⟩
 . rintro δ ⟨acc,s,rfl,_,_,e,_⟩
   simp only [↓WS,ite_true,ite_false,ae,decide_eq_true_eq,↓reduceIte]
   rw [<- e]
   rfl
theorem GN (n:Nat) (r ad:List It) (a:D) (ha:a = .lst (ad.map itD)\/a = .tup (ad.map itD)) (h:low (r++ad)) (hl:r.length+ad.length < 64):PP.run Gs gls (n+2) 1 [.tup (r.map itD),a] = some (.tup ((mo (r++ad)).map itD)):=by
 have w:=Ac n (r++ad) h (by rw [az];exact hl)
 rw [bS] at w
 have ss:=s64
 apply dJ
 refine bE fE rfl rfl rfl ?_;simp only [fE,init,SI,Nat.reduceAdd,Nat.reduceSub]
 rcases ha with rfl | rfl
 . simp only [↓WS,ite_true,ite_false,ae,decide_eq_true_eq,↓reduceIte]
   exact ⟨by rw [aj,aj];omega,(bR w).mpr rfl⟩
 . simp only [↓WS,ite_true,ite_false,ae,decide_eq_true_eq,↓reduceIte]
   exact ⟨by rw [aj,aj];omega,(bR w).mpr rfl⟩
noncomputable def cl (ps:List It):Bool:=has ps (false,.yes) || (has ps (true,.no) || ps.any fun p=>p.1 && has ps (false,p.2))
noncomputable def clo (S:It->Prop):Prop:=S (false,.yes)\/S (true,.no)\/∃ A,S (true,A)/\S (false,A)
theorem ku {ps:List It} (h:low ps):cl ps = true↔clo (·∈ps):=by
 unfold cl clo
 rw [bf,bf,gb h,gb h,cR]
 refine or_congr aY (or_congr aY ⟨?_,?_⟩)
 . rintro ⟨⟨b,A⟩,hp,e⟩
   rw [aa,gb h] at e
   obtain ⟨e1,e2⟩:=e
   cases b with
   | true=>exact ⟨A,hp,e2⟩
   | false=>cases e1
 . rintro ⟨A,h1,h2⟩
   exact ⟨(true,A),h1,by rw [aa,gb h];exact ⟨rfl,h2⟩⟩
theorem oV {α:Type} (f:α->Bool):∀ xs:List α,ji (xs.map fun x=>D.bl (f x)) = some (xs.map f)
 | []=>rfl
 | x::xs=>by
   rw [aI]
   unfold ji
   rw [oV f xs]
   rfl
theorem any_map {α:Type} (f:α->Bool) (xs:List α) {Q:D->Prop} (q:Q (.bl (xs.any f))):gE .any [.lst (xs.map fun x=>D.bl (f x))] Q:=by
 refine ⟨.bl (xs.any f),?_,q⟩
 show (ji (xs.map fun x=>D.bl (f x))).map (fun bs=>D.bl (bs.any id)) = _
 rw [oV]
 show some (D.bl ((xs.map f).any id)) = _
 rw [List.any_map]
 rfl
theorem rG (b:Bool):(sd b == "left") = b:=by cases b<;>decide +kernel
theorem Js (b:Bool):(sd b == "right") = !b:=by cases b<;>decide +kernel
theorem mf (n:Nat) (ps:List It) (h:low ps) (hl:ps.length<=1000):PP.run Gs gls (n+1) 2 [.tup (ps.map itD)] = some (.bl (cl ps)):=by
 have ss:=s64
 apply dJ
 refine bE dB rfl rfl rfl ?_;simp only [dB,init,SI,Nat.reduceAdd,Nat.reduceSub]
 simp only [aw,aF,↓qR,↓WS,ite_true,ite_false,ae,decide_eq_true_eq,↓reduceIte]
 have dl:=qk h
 refine ⟨by decide,by decide,⟨by decide +kernel,by omega⟩,iU (fun h1=>?_) fun h1=>⟨by decide,by decide,⟨by decide +kernel,by omega⟩,iU (fun h2=>?_) fun h2=>?_⟩⟩
 . have e:has ps (false,.yes) = true:=h1
   unfold cl;rw [e];rfl
 . have e:has ps (true,.no) = true:=h2
   unfold cl;rw [e,ff,kM]
 . have e1:has ps (false,.yes) = false:=cB.mpr h1
   have e2:has ps (true,.no) = false:=cB.mpr h2
   refine iH itD (fun _=>true) (fun p=>.bl (p.1 && has ps (false,p.2))) ps (fun p hp=>?_) ⟨?_,?_⟩
   . obtain ⟨b,A⟩:=p
     show wTg [Sl.val (D.tup (ps.map itD)),.no,.no] (Tg.tp [1,2]) (D.tup [D.str (sd b),enc A]) _
     simp only [↓pB,rG,SI,↓WS,ite_true,ite_false,ae,decide_eq_true_eq,↓reduceIte]
     refine ⟨trivial,?_⟩
     cases b with
     | false=>exact ⟨rfl,rfl⟩
     | true=>exact ⟨by decide,sC (q:=(false,A)) h (h (true,A) hp),rfl,rfl⟩
   . rw [aj,yt.mpr fun _ _=>rfl];omega
   . rw [yt.mpr fun _ _=>rfl]
     refine any_map _ _ ?_
     unfold cl
     rw [e1,e2]
     rfl
end P1
end
section
namespace P1
open PySem L2 PP
theorem qi {as bs:List D} (h:min (bI as) (bI bs)<=149) (h2:max (bI as) (bI bs) < 99999) {Q:Bool->Prop} (k:Q (eqD (.tup as) (.tup bs))):gf .eq (.tup as) (.tup bs) Q:=by
 refine ⟨_,?_,k⟩
 show (if gc (.tup as) (.tup bs) = true then some (eqD (.tup as) (.tup bs)) else _) = _
 rw [if_pos]
 unfold gc
 rw [show kin (.tup as) (.tup bs) = true from rfl,jQ,aa,decide_eq_true_eq,decide_eq_true_eq]
 unfold dep
 omega
theorem vV {A B:F} (h:sz A<=61) (h2:sz B<=61) {Q:Bool->Prop} (k:Q (eqD (enc A) (enc B))):gf .eq (enc A) (enc B) Q:=by
 have a:=ql A
 have b:=ql B
 rw [fD A,fD B] at k ⊢
 rw [fD A] at a
 rw [fD B] at b
 unfold dep at a b
 exact qi (by omega) (by omega) k
noncomputable def lf (ps:List It) (p:It):Bool:=(p.1 && (eqD (enc p.2) (enc .no) || has ps (false,p.2))) || (!p.1 && eqD (enc p.2) (enc .yes))
theorem JN {ps:List It} (h:low ps):ps.any (lf ps) = cl ps:=by
 rw [df,ku h,cR]
 unfold lf clo
 constructor
 . rintro ⟨⟨b,A⟩,hp,e⟩
   rw [bf,aa,aa,bf,gb h] at e
   rcases e with ⟨e1,e2 | e2⟩ | ⟨e1,e2⟩
   . have e3:b = true:=e1
     rw [e3,show A = .no from jh _ _ e2] at hp
     exact .inr (.inl hp)
   . have e3:b = true:=e1
     rw [e3] at hp
     exact .inr (.inr ⟨A,hp,e2⟩)
   . have e3:b = false:=by simpa using e1
     rw [e3,show A = .yes from jh _ _ e2] at hp
     exact .inl hp
 . rintro (hp | hp | ⟨A,h1,h2⟩)
   . exact ⟨_,hp,by rw [bf];exact .inr (by decide +kernel)⟩
   . exact ⟨_,hp,by rw [bf];left;rw [aa,bf];exact ⟨rfl,.inl (by decide +kernel)⟩⟩
   . exact ⟨_,h1,by rw [bf];left;rw [aa,bf,gb h];exact ⟨rfl,.inr h2⟩⟩
theorem ka (n:Nat) (ps:List It) (h:low ps):PP.run Gs gls (n+1) 23 [.tup (ps.map itD)] = some (.bl (cl ps)):=by
 apply dJ
 refine bE bP rfl rfl rfl ?_;simp only [bP,init,SI,Nat.reduceAdd,Nat.reduceSub]
 simp only [↓WS,ite_true,ite_false,ae,decide_eq_true_eq,↓reduceIte]
 refine ic (g:=itD) (fun rest δ=>∃ s1 s2:Sl,δ = [.val (.tup (ps.map itD)),s1,s2]/\(∀ p∈rest,p∈ps)/\rest.any (lf ps) = cl ps) ?_ ?_ _ _ ⟨_,_,rfl,fun p hp=>hp,JN h⟩
 . rintro p rest δ ⟨s1,s2,rfl,hm,e⟩
   have hp:=h p (hm p ak)
   rw [eF] at e
   obtain ⟨b,A⟩:=p
   have hA:sz A<=61:=hp
   have nx:lf ps (b,A) = false->∃ s1 s2:Sl,([.val (.tup (ps.map itD)),.val (.str (sd b)),.val (enc A)]:PP.Loc) = [.val (.tup (ps.map itD)),s1,s2]/\(∀ p∈rest,p∈ps)/\rest.any (lf ps) = cl ps:=fun z=>⟨_,_,rfl,fun q hq=>hm q (av _ hq),by rw [z,qL] at e;exact e⟩
   have fin:lf ps (b,A) = true->D.bl true = D.bl (cl ps):=fun z=>by rw [z,ff] at e;rw [<- e]
   unfold itD
   cases b with
   | true =>
     simp only [aw,aF,rG,Js,↓WS,ite_true,ite_false,ae,decide_eq_true_eq,↓reduceIte]
     refine ⟨by decide,vV (B:=.no) hA (by decide) (iU (fun z=>?_) fun z=>?_)⟩
     . exact fin (by unfold lf;rw [z];rfl)
     . refine ⟨by decide,sC (q:=(false,A)) h hA,iU (fun z2=>?_) fun z2=>?_⟩
       . have z2:has ps (false,A) = true:=z2
         exact fin (by unfold lf;rw [z2];simp)
       . have z2:¬ has ps (false,A) = true:=z2
         exact nx (by unfold lf;rw [cB.mpr z,cB.mpr z2];rfl)
   | false =>
     simp only [aw,aF,rG,Js,↓WS,ite_true,ite_false,ae,decide_eq_true_eq,↓reduceIte]
     refine ⟨by decide,vV (B:=.yes) hA (by decide) (iU (fun z=>?_) fun z=>?_)⟩
     . exact fin (by unfold lf;rw [z];rfl)
     . exact nx (by unfold lf;rw [cB.mpr z];rfl)
 . rintro δ ⟨s1,s2,rfl,_,e⟩
   simp only [↓WS,ite_true,ite_false,ae,decide_eq_true_eq,↓reduceIte]
   rw [<- e]
   rfl
end P1
end
section
namespace P1
open PySem L2 PP
theorem oj {c:Nat->List D->Option D} {f:Nat->Bool} {δ:PP.Loc} {Q:D->PP.Loc->Prop}:wE ⟨c,gls,f⟩ (.glob 4) δ Q↔Q (.tup [.str "close"]) δ:=Cn.trans ⟨fun ⟨d,e,q⟩=>by cases e;exact q,fun q=>⟨_,rfl,q⟩⟩
noncomputable def shr (ones others:List It):List F:=(ones.filter fun p=>p.1 && has others (false,p.2)).map (·.2)
noncomputable def CL:D:=.tup [.str "close"]
noncomputable def rl (L:Bool) (I:F) (ks:List D):D:=.tup [.str "rule",.str (sd L),enc I,.str "",.tup ks]
structure R where
 I:F
 f:D
 s:D
noncomputable def R.d (r:R):D:=.tup [enc r.I,r.f,r.s]
noncomputable def pcl (ones others:List It):R :=
 if cl ones = true then ⟨.no,CL,CL⟩ else if cl others = true then ⟨.yes,CL,CL⟩ else
  match shr ones others with
  | A::_=>⟨A,CL,CL⟩
  | []=>match shr others ones with
    | A::_=>⟨.neg A,rl false (.neg A) [CL],rl true (.neg A) [CL]⟩
    | []=>⟨.no,CL,CL⟩
noncomputable def An (ones others:List It):D :=
 if cl ones = true then R.d ⟨.no,CL,CL⟩ else if cl others = true then R.d ⟨.yes,CL,CL⟩ else
  match shr ones others with
  | A::_=>R.d ⟨A,CL,CL⟩
  | []=>match shr others ones with
    | A::_=>R.d ⟨.neg A,rl false (.neg A) [CL],rl true (.neg A) [CL]⟩
    | []=>.non
theorem lq {ones others:List It} (h:low others) {A:F}:A∈shr ones others↔(true,A)∈ones/\(false,A)∈others:=by
 unfold shr
 rw [aR]
 constructor
 . rintro ⟨⟨b,B⟩,hp,rfl⟩
   rw [eN,aa,gb h] at hp
   obtain ⟨h1,h2,h3⟩:=hp
   have e:b = true:=h2
   rw [e] at h1
   exact ⟨h1,h3⟩
 . rintro ⟨h1,h2⟩
   exact ⟨_,eN.mpr ⟨h1,by rw [aa,gb h];exact ⟨rfl,h2⟩⟩,rfl⟩
theorem rN (n:Nat) (ones others:List It) (h1:low ones) (h2:low others) (hl:ones.length<=1000):PP.run Gs gls (n+1) 9 [.tup (ones.map itD),.tup (others.map itD)] = some (.lst ((shr ones others).map enc)):=by
 have ss:=s64
 apply dJ
 refine bE bN rfl rfl rfl ?_;simp only [bN,init,SI,Nat.reduceAdd,Nat.reduceSub]
 simp only [↓WS,ite_true,ite_false,ae,decide_eq_true_eq,↓reduceIte]
 refine iH itD (fun p=>p.1 && has others (false,p.2)) (fun p=>enc p.2) ones (fun p hp=>?_) ⟨?_,?_⟩
 . obtain ⟨b,A⟩:=p
   show wTg [Sl.val (D.tup (ones.map itD)),.val (D.tup (others.map itD)),.no,.no] (Tg.tp [2,3]) (D.tup [D.str (sd b),enc A]) _
   simp only [↓pB,rG,SI,↓WS,ite_true,ite_false,ae,decide_eq_true_eq,↓reduceIte]
   cases b with
   | false=>exact ⟨rfl,rfl⟩
   | true =>
     refine ⟨by decide,sC (q:=(false,A)) h2 (h1 (true,A) hp),rfl,?_⟩
     exact iU (fun z=>⟨trivial,rfl⟩) fun z=>rfl
 . have:=List.length_filter_le (fun p:It=>p.1 && has others (false,p.2)) ones
   rw [aj];omega
 . unfold shr
   rw [kL]
   rfl
theorem Am {ones others:List It} (h1:low ones) (h2:low others) (k:clo fun p=>p∈ones\/p∈others) (c1:cl ones = false) (c2:cl others = false) (c3:shr ones others = []):∃ A r,shr others ones = A::r:=by
 have n1:¬ clo (·∈ones):=fun z=>by rw [(ku h1).mpr z] at c1;cases c1
 have n2:¬ clo (·∈others):=fun z=>by rw [(ku h2).mpr z] at c2;cases c2
 have n3:∀ A,¬ ((true,A)∈ones/\(false,A)∈others):=fun A z=>by
  have:=(lq h2).mpr z
  rw [c3] at this
  cases this
 cases e:shr others ones with
 | cons A r=>exact ⟨A,r,rfl⟩
 | nil =>
   exfalso
   have n4:∀ A,¬ ((true,A)∈others/\(false,A)∈ones):=fun A z=>by
    have:=(lq h1).mpr z
    rw [e] at this
    cases this
   rcases k with (k | k) | (k | k) | ⟨A,k1 | k1,k2 | k2⟩
   . exact n1 (.inl k)
   . exact n2 (.inl k)
   . exact n1 (.inr (.inl k))
   . exact n2 (.inr (.inl k))
   . exact n1 (.inr (.inr ⟨A,k1,k2⟩))
   . exact n3 A ⟨k1,k2⟩
   . exact n4 A ⟨k1,k2⟩
   . exact n2 (.inr (.inr ⟨A,k1,k2⟩))
theorem Ad (n:Nat) (ones others:List It) (h1:low ones) (h2:low others) (l1:ones.length<=1000) (l2:others.length<=1000) (k:clo fun p=>p∈ones\/p∈others):PP.run Gs gls (n+2) 10 [.tup (ones.map itD),.tup (others.map itD)] = some (pcl ones others).d:=by
 have w1:=mf n ones h1 l1
 have w2:=mf n others h2 l2
 have w3:=rN n ones others h1 h2 l1
 have w4:=rN n others ones h2 h1 l2
 apply dJ
 refine bE bJ rfl rfl rfl ?_;simp only [bJ,init,SI,Nat.reduceAdd,Nat.reduceSub]
 unfold pcl
 cases c1:cl ones with
 | true =>
   rw [c1] at w1
   simp only [aw,aF,↓bR w1,↓oj,↓WS,ite_true,ite_false,ae,decide_eq_true_eq,↓reduceIte]
   exact ⟨by decide,by decide,rfl⟩
 | false =>
   rw [c1] at w1
   cases c2:cl others with
   | true =>
     rw [c2] at w2
     simp only [aw,aF,↓bR w1,↓bR w2,↓oj,↓WS,ite_true,ite_false,ae,decide_eq_true_eq,↓reduceIte]
     exact ⟨by decide,by decide,rfl⟩
   | false =>
     rw [c2] at w2
     rw [if_neg ai,if_neg ai]
     cases c3:shr ones others with
     | cons A r =>
       rw [c3] at w3
       simp only [aw,aF,aI,↓bR w1,↓bR w2,↓bR w3,↓oj,↓qP,↓WS,ite_true,ite_false,ae,decide_eq_true_eq,↓reduceIte]
       rw [if_pos (show (!(enc A::r.map enc).isEmpty) = true from rfl)]
       exact ⟨_,atI_nat (j:=0) rfl,by decide,rfl⟩
     | nil =>
       obtain ⟨A,r,c4⟩:=Am h1 h2 k c1 c2 c3
       rw [c3] at w3
       rw [c4] at w4 ⊢
       have w5:PP.run Gs gls (n+1) 8 [.tup [.str "not",enc A],.str "",.lst [CL],.lst [CL]] = some (R.d ⟨.neg A,rl false (.neg A) [CL],rl true (.neg A) [CL]⟩):=by kernel_rfl
       simp only [aw,aF,aI,kK,↓bR w1,↓bR w2,↓bR w3,↓bR w4,↓oj,↓qP,↓WS,ite_true,ite_false,ae,decide_eq_true_eq,↓reduceIte]
       rw [if_neg (by simp)]
       exact ⟨_,atI_nat (j:=0) rfl,by decide,by decide,by decide,(bR w5).mpr rfl⟩
theorem rE (p:It) (ps qs:List It):shr (p::ps) qs = if (p.1 && has qs (false,p.2)) = true then p.2::shr ps qs else shr ps qs:=by
 unfold shr
 rw [lI]
 split<;>rfl
theorem Dp (n:Nat) (ones others:List It) (h1:low ones) (h2:low others)  :PP.run Gs gls (n+2) 24 [.tup (ones.map itD),.tup (others.map itD)] = some (An ones others):=by
 have w1:=ka n ones h1
 have w2:=ka n others h2
 apply dJ
 refine bE br rfl rfl rfl ?_;simp only [br,init,SI,Nat.reduceAdd,Nat.reduceSub]
 unfold An
 cases c1:cl ones with
 | true =>
   rw [c1] at w1
   simp only [aw,aF,↓bR w1,↓WS,ite_true,ite_false,ae,decide_eq_true_eq,↓reduceIte]
   exact ⟨by decide,by decide,by decide,by decide,rfl⟩
 | false =>
   rw [c1] at w1
   cases c2:cl others with
   | true =>
     rw [c2] at w2
     simp only [aw,aF,↓bR w1,↓bR w2,↓WS,ite_true,ite_false,ae,decide_eq_true_eq,↓reduceIte]
     exact ⟨by decide,by decide,by decide,by decide,rfl⟩
   | false =>
     rw [c2] at w2
     rw [if_neg ai,if_neg ai]
     simp only [↓bR w1,↓bR w2,↓WS,ite_true,ite_false,ae,decide_eq_true_eq,↓reduceIte]
     refine ic (g:=itD) (fun rest δ=>∃ s2 s3:Sl,δ = [.val (.tup (ones.map itD)),.val (.tup (others.map itD)),s2,s3,.no,.no]/\(∀ p∈rest,p∈ones)/\shr rest others = shr ones others) ?_ ?_ _ _ ⟨_,_,rfl,fun p hp=>hp,rfl⟩
     . rintro ⟨b,A⟩ rest δ ⟨s2,s3,rfl,hm,e⟩
       have hA:sz A<=61:=h1 (b,A) (hm _ ak)
       rw [rE] at e
       have nx:(b && has others (false,A)) = false->∃ s2 s3:Sl,([.val (.tup (ones.map itD)),.val (.tup (others.map itD)),.val (.str (sd b)),.val (enc A),.no,.no]:PP.Loc) = [.val (.tup (ones.map itD)),.val (.tup (others.map itD)),s2,s3,.no,.no]/\(∀ p∈rest,p∈ones)/\shr rest others = shr ones others:=fun z=>⟨_,_,rfl,fun p hp=>hm p (av _ hp),by rw [if_neg (by rw [z];exact ai)] at e;exact e⟩
       unfold itD
       cases b with
       | false =>
         simp only [aw,aF,rG,↓WS,ite_true,ite_false,ae,decide_eq_true_eq,↓reduceIte]
         exact nx rfl
       | true =>
         simp only [aw,aF,rG,↓WS,ite_true,ite_false,ae,decide_eq_true_eq,↓reduceIte]
         refine ⟨by decide,sC (q:=(false,A)) h2 hA,iU (fun z=>⟨by decide,by decide,by decide,?_⟩) fun z=>nx (cB.mpr z)⟩
         rw [if_pos (show (true && has others (false,A)) = true from z)] at e
         rw [<- e]
         rfl
     . rintro δ ⟨s2,s3,rfl,_,e⟩
       have c3:shr ones others = []:=e.symm
       rw [c3]
       simp only [↓WS,ite_true,ite_false,ae,decide_eq_true_eq,↓reduceIte]
       refine ic (g:=itD) (fun rest δ=>∃ s2 s3:Sl,δ = [.val (.tup (ones.map itD)),.val (.tup (others.map itD)),s2,s3,.no,.no]/\(∀ p∈rest,p∈others)/\shr rest ones = shr others ones) ?_ ?_ _ _ ⟨_,_,rfl,fun p hp=>hp,rfl⟩
       . rintro ⟨b,A⟩ rest δ ⟨s2,s3,rfl,hm,e⟩
         have hA:sz A<=61:=h2 (b,A) (hm _ ak)
         rw [rE] at e
         have nx:(b && has ones (false,A)) = false->∃ s2 s3:Sl,([.val (.tup (ones.map itD)),.val (.tup (others.map itD)),.val (.str (sd b)),.val (enc A),.no,.no]:PP.Loc) = [.val (.tup (ones.map itD)),.val (.tup (others.map itD)),s2,s3,.no,.no]/\(∀ p∈rest,p∈others)/\shr rest ones = shr others ones:=fun z=>⟨_,_,rfl,fun p hp=>hm p (av _ hp),by rw [if_neg (by rw [z];exact ai)] at e;exact e⟩
         unfold itD
         cases b with
         | false =>
           simp only [aw,aF,rG,↓WS,ite_true,ite_false,ae,decide_eq_true_eq,↓reduceIte]
           exact nx rfl
         | true =>
           simp only [aw,aF,rG,↓WS,ite_true,ite_false,ae,decide_eq_true_eq,↓reduceIte]
           refine ⟨by decide,sC (q:=(false,A)) h1 hA,iU (fun z=>?_) fun z=>nx (cB.mpr z)⟩
           rw [if_pos (show (true && has ones (false,A)) = true from z)] at e
           rw [<- e]
           exact ⟨by decide,by decide,by decide,by decide,by decide,by decide,by decide,by decide,rfl⟩
       . rintro δ ⟨s2,s3,rfl,_,e⟩
         rw [<- e]
         simp only [↓WS,ite_true,ite_false,ae,decide_eq_true_eq,↓reduceIte]
         rfl
end P1
end
section
namespace P1
open PySem L2 PP
theorem lP {a b:Int} {Q:D->Prop}:gE .dvm [.int a,.int b] Q↔(0 < b/\b < 1073741824)/\Q (.tup [.int (a / b),.int (a % b)]):=yi
theorem mh (n:Nat) (ns:List Int) (k:Int) (h0:0<=k) (h1:k<=1000):gD Gs gls (n+1) 13 [.lst (ns.map .int),.int k] fun d=>∃ c:Int,d = .int c:=by
 refine bE cA rfl rfl rfl ?_;simp only [cA,init,SI,Nat.reduceAdd,Nat.reduceSub]
 simp only [↓WS,ite_true,ite_false,ae,decide_eq_true_eq,↓reduceIte]
 rw [aj]
 split
 . rename_i h
   obtain ⟨d,hm,e⟩:=BA (ds:=ns.map D.int) h0 (by rw [aj];exact h)
   obtain ⟨c,_,rfl⟩:=aR.mp hm
   exact ⟨_,e,c,rfl⟩
 . exact ⟨mul_r (by omega) (by omega),mul_r (by decide) (by decide),by decide,_,rfl⟩
theorem e30:(10:Int) ^ Int.toNat 30 = 1000000000000000000000000000000:=by decide +kernel
theorem e31:(10:Int) ^ Int.toNat 31 = 10000000000000000000000000000000:=by decide +kernel
theorem Eb:(2:Nat) ^ 200 = 1606938044258990275541962092341162602522202993782792835301376:=by decide +kernel
theorem rO (n:Nat) (c:Int):gD Gs gls (n+1) 14 [.int c] fun d=>∃ m:Int,d = .int m/\0<=m:=by
 refine bE cK rfl rfl rfl ?_;simp only [cK,init,SI,Nat.reduceAdd,Nat.reduceSub]
 simp only [↓WS,ite_true,ite_false,ae,decide_eq_true_eq,↓reduceIte]
 rw [e30,e31]
 have a1:=bp c (show (1000000000000000000000000000000:Int)≠0 by decide)
 have a2:=aZ c (show (0:Int) < 1000000000000000000000000000000 by decide)
 generalize c % 1000000000000000000000000000000 = x at a1 a2
 have b1:=bp ((x+7) * 618970019642690137449562111) (show (1000000000000000000000000000000+57:Int)≠0 by decide)
 have b2:=aZ ((x+7) * 618970019642690137449562111) (show (0:Int) < 1000000000000000000000000000000+57 by decide)
 generalize (x+7) * 618970019642690137449562111 % (1000000000000000000000000000000+57) = y at b1 b2 ⊢
 have c1:=bp (y * y) (show (10000000000000000000000000000000+33:Int)≠0 by decide)
 exact ⟨⟨by decide,by decide,by decide⟩,by decide,EJ (by rw [Eb];omega) (by rw [Eb];decide),⟨by decide,by decide,by decide⟩,by decide,EJ (by rw [Eb];omega) (by rw [Eb];omega),⟨by decide,by decide,by decide⟩,by decide,c1⟩
theorem GQ (n:Nat) (c k m:Int) (k0:0<=k) (k8:k<=8) (hm:0 < m):gD Gs gls (n+1) 15 [.int c,.int k,.int m] fun d=>∃ r:Int,d = .int r/\0<=r/\r < m:=by
 refine bE cW rfl rfl rfl ?_;simp only [cW,init,SI,Nat.reduceAdd,Nat.reduceSub]
 simp only [↓WS,ite_true,ite_false,ae,decide_eq_true_eq,↓reduceIte]
 have hv:∃ v:Int,(0 < v/\v < 1000000000000000000000000000000000000000000000000000000000000)/\atI [D.int 1,D.int (10 ^ Int.toNat 3),D.int (10 ^ Int.toNat 6),D.int (10 ^ Int.toNat 9),D.int (10 ^ Int.toNat 12),D.int (10 ^ Int.toNat 15),D.int (10 ^ Int.toNat 18),D.int (10 ^ Int.toNat 21),D.int (10 ^ Int.toNat 24)] k = some (.int v):=by
  rcases (show k = 0\/k = 1\/k = 2\/k = 3\/k = 4\/k = 5\/k = 6\/k = 7\/k = 8 by omega) with h | h | h | h | h | h | h | h | h<;>rw [h]<;>exact ⟨_,by decide +kernel,rfl⟩
 obtain ⟨v,v1,ev⟩:=hv
 have p:∀ k:Int,0<=k->k<=100->0<=k/\k<=1000000/\Int.natAbs 10 < 2 ^ 64:=fun k a b=>⟨a,by omega,by decide⟩
 refine ⟨p _ (by decide) (by decide),p _ (by decide) (by decide),p _ (by decide) (by decide),p _ (by decide) (by decide),p _ (by decide) (by decide),p _ (by decide) (by decide),p _ (by decide) (by decide),p _ (by decide) (by decide),(show 9<=sizeLine by decide),_,ev,oh.mpr ⟨v1,jr.mpr ⟨by decide,jr.mpr ⟨hm,_,rfl,bp _ (by omega),aZ _ hm⟩⟩⟩⟩
theorem ve (n:Nat) (c:Int) (l:Str) (f:Int) (m:Nat) (f0:0 < f) (f1:f<=l.length) (hl:l.length<=100) (hm:m<=10):gD Gs gls (n+2) 16 [.int c,.str l,.int f,.int m] fun d=>∃ ts:List Str,d = .lst (ts.map .str)/\ts.length = m:=by
 refine bE bX rfl rfl rfl ?_;simp only [bX,init,SI,Nat.reduceAdd,Nat.reduceSub]
 simp only [↓WS,ite_true,ite_false,ae,decide_eq_true_eq,↓reduceIte]
 refine bh (GQ n c 0 8 (by decide) (by decide) (by decide)) ?_
 rintro _ ⟨z,rfl,z0,z8⟩
 simp only [↓WS,ite_true,ite_false,ae,decide_eq_true_eq,↓reduceIte]
 refine bh (GQ n c 1 (1+z) (by decide) (by decide) (by omega)) ?_
 rintro _ ⟨a,rfl,a0,a1⟩
 simp only [aF,↓WS,ite_true,ite_false,ae,decide_eq_true_eq,↓reduceIte]
 have ss:=s64
 refine ⟨by decide,⟨by omega,by omega⟩,?_⟩
 rw [lg]
 refine ie (fun xs δ=>∃ (ts:List Str) (s7 s8 s9 s10:Sl),δ = [.val (.int c),.val (.str l),.val (.int f),.val (.int m),.val (.int (1+z)),.val (.int a),.own (ts.map .str),s7,s8,s9,s10]/\ts.length+xs.length = m/\∀ x∈xs,∃ i:Int,x = .int i/\0<=i/\i < 10) ?_ ?_ _ _ ⟨[],_,_,_,_,rfl,by rw [pT];simp,fun x hx=>?_⟩
 . rintro x xs δ ⟨ts,s7,s8,s9,s10,rfl,hlen,hx⟩
   obtain ⟨i,rfl,i0,i1⟩:=hx x ak
   rw [aw] at hlen
   simp only [↓WS,ite_true,ite_false,ae,decide_eq_true_eq,↓reduceIte]
   refine ⟨⟨by omega,by omega⟩,?_⟩
   refine ie (fun xs' δ=>∃ (t:Str) (s9 s10:Sl),δ = [.val (.int c),.val (.str l),.val (.int f),.val (.int m),.val (.int (1+z)),.val (.int a),.own (ts.map .str),.val (.int i),.val (.str t),s9,s10]/\t.length+xs'.length<=8/\∀ x∈xs',∃ j:Int,x = .int j/\0<=j/\j < 8) ?_ ?_ _ _ ⟨"",_,_,rfl,by rw [pT];show 0+(1+z).toNat<=8;omega,fun x hx=>?_⟩
   . rintro x xs' δ ⟨t,s9,s10,rfl,ht,hx'⟩
     obtain ⟨j,rfl,j0,j1⟩:=hx' x ak
     rw [aw] at ht
     have q1:=bp j (show (6:Int)≠0 by decide)
     have q2:=aZ j (show (0:Int) < 6 by decide)
     have go:∀ w:Int,0 < w->w<=l.length->gD Gs gls (n+1) 15 [.int c,.int (2+j % 6),.int w] fun d=>iu i (if j = a then 1 else 0) = true/\wOp .add d (.int (i * if j = a then 1 else 0)) fun d=>wOp .mod d (.int w) fun d=>wIx (.str l) d fun d=>wOp .add (.str t) d fun d=>∃ (t:Str) (s9 s10:Sl),([.val (.int c),.val (.str l),.val (.int f),.val (.int m),.val (.int (1+z)),.val (.int a),.own (ts.map .str),.val (.int i),.val d,.val (.int j),.val (.int w)]:PP.Loc) = [.val (.int c),.val (.str l),.val (.int f),.val (.int m),.val (.int (1+z)),.val (.int a),.own (ts.map .str),.val (.int i),.val (.str t),s9,s10]/\t.length+xs'.length<=8/\∀ x∈xs',∃ j:Int,x = .int j/\0<=j/\j < 8:=fun w w0 w1=>by
      refine bh (GQ n c _ w (by omega) (by omega) w0) ?_
      rintro _ ⟨r,rfl,r0,r1⟩
      have v1:=bp (r+i * if j = a then 1 else 0) (show w≠0 by omega)
      have v2:=aZ (r+i * if j = a then 1 else 0) w0
      obtain ⟨u,_,e⟩:=BA (ds:=l.cps.toList) v1 (by rw [str_len];omega)
      have e1:(⟨#[u]⟩:Str).length = 1:=rfl
      refine ⟨JK (by omega) (by omega),qO.mpr (jr.mpr ⟨w0,uM.mpr ⟨small (by omega),u,e,qN.mpr ⟨small (by omega),_,_,_,rfl,by rw [Cz,e1];omega,fun x hx=>hx' x (av _ hx)⟩⟩⟩)⟩
     simp only [↓WS,ite_true,ite_false,ae,decide_eq_true_eq,↓reduceIte]
     exact ⟨small (by omega),iU (fun _=>⟨by decide,go f f0 f1⟩) fun _=>⟨by decide,go l.length (by omega) (Int.le_refl _)⟩⟩
   . rintro δ ⟨t,s9,s10,rfl,ht,_⟩
     simp only [↓WS,ite_true,ite_false,ae,decide_eq_true_eq,↓reduceIte]
     exact ⟨by rw [aj];omega,ts++[t],_,_,_,_,by rw [bS];rfl,by rw [az,cb];omega,fun x h=>hx x (av _ h)⟩
   . obtain ⟨j,hj,rfl⟩:=va hx
     exact ⟨_,rfl,by omega,by omega⟩
 . rintro δ ⟨ts,s7,s8,s9,s10,rfl,hlen,_⟩
   simp only [↓WS,ite_true,ite_false,ae,decide_eq_true_eq,↓reduceIte]
   exact ⟨ts,rfl,by simpa using hlen⟩
 . obtain ⟨j,hj,rfl⟩:=va hx
   exact ⟨_,rfl,by omega,by omega⟩
theorem Dj (n:Nat) (ns:List Int):gD Gs gls (n+3) 17 [.lst (ns.map .int)] fun d=>∃ ts:List Str,d = .lst (ts.map .str)/\ts.length = 3:=by
 refine bE bW rfl rfl rfl ?_;simp only [bW,init,SI,Nat.reduceAdd,Nat.reduceSub]
 simp only [↓WS,ite_true,ite_false,ae,decide_eq_true_eq,↓reduceIte]
 refine bh (mh (n+1) ns 0 (by decide) (by decide)) ?_
 rintro _ ⟨c,rfl⟩
 refine bh (rO (n+1) c) ?_
 rintro _ ⟨m,rfl,_⟩
 exact ve n m "bcdfghjklmpqrtvwxz" 18 3 (by decide) (by decide) (by decide) (by decide)
theorem Dm (n:Nat) (ns:List Int):gD Gs gls (n+3) 18 [.lst (ns.map .int)] fun d=>∃ ts:List Str,d = .lst (ts.map .str)/\ts.length = 4:=by
 refine bE bc rfl rfl rfl ?_;simp only [bc,init,SI,Nat.reduceAdd,Nat.reduceSub]
 simp only [↓WS,ite_true,ite_false,ae,decide_eq_true_eq,↓reduceIte]
 refine bh (mh (n+1) ns 1 (by decide) (by decide)) ?_
 rintro _ ⟨c,rfl⟩
 (try simp only [↓WS,ite_true,ite_false,ae,decide_eq_true_eq,↓reduceIte])
 refine bh (rO (n+1) c) ?_
 rintro _ ⟨m,rfl,_⟩
 simp only [aw,aF,↓WS,ite_true,ite_false,ae,decide_eq_true_eq,↓reduceIte]
 refine ⟨⟨by decide,by decide,by decide⟩,by decide +kernel,by decide,iU (fun _=>⟨by decide,["n0","n1","n2","n3"],rfl,rfl⟩) fun _=>ve n m "abcdefghijklmnopqrstuvwxyz123456789" 26 4 (by decide) (by decide) (by decide) (by decide)⟩
theorem qC {ts:List Str} {j:Int} (h0:0<=j) (h1:j < ts.length):∃ t:Str,t∈ts/\atI (ts.map D.str) j = some (.str t):=by
 obtain ⟨d,hm,e⟩:=BA (ds:=ts.map D.str) h0 (by rw [aj];exact h1)
 obtain ⟨t,ht,rfl⟩:=aR.mp hm
 exact ⟨t,ht,e⟩
theorem GL (n:Nat) (c:Int) (ws nms:List Str) (hw:ws.length = 3) (hm:nms.length = 4):gD Gs gls (n+1) 20 [.int c,.lst (ws.map .str),.lst (nms.map .str)] fun d=>∃ w ts,d = enc (.word w ts)/\ts.length<=3:=by
 refine bE cy rfl rfl rfl ?_;simp only [cy,init,SI,Nat.reduceAdd,Nat.reduceSub]
 simp only [aj,aF,↓lP,↓WS,ite_true,ite_false,ae,decide_eq_true_eq,↓reduceIte]
 rw [hw]
 have a1:=bp c (show (4:Int)≠0 by decide)
 have a2:=aZ c (show (0:Int) < 4 by decide)
 have b1:=bp (c / 4) (show ((3:Nat):Int)≠0 by decide)
 have b2:=aZ (c / 4) (show (0:Int) < ((3:Nat):Int) by decide)
 obtain ⟨w,_,ew⟩:=qC (ts:=ws) (j:=c / 4 % ((3:Nat):Int)) b1 (by rw [hw];exact b2)
 refine ⟨⟨by decide,by decide⟩,⟨by decide,by decide⟩,by decide,⟨by omega,by omega⟩,?_⟩
 have ss:=s64
 refine ie (fun xs δ=>∃ (c':Int) (ts:List Str) (s6 s7:Sl),δ = [.val (.int c'),.val (.lst (ws.map .str)),.val (.lst (nms.map .str)),.val (.int (c % 4)),.val (.int (c / 4 % ((3:Nat):Int))),.own (ts.map .str),s6,s7]/\ts.length+xs.length<=3) ?_ ?_ _ _ ⟨_,[],_,_,rfl,by rw [pT,aF];omega⟩
 . rintro x xs δ ⟨c',ts,s6,s7,rfl,hl⟩
   rw [aw] at hl
   simp only [aj,↓lP,↓WS,ite_true,ite_false,ae,decide_eq_true_eq,↓reduceIte]
   rw [hm]
   obtain ⟨t,_,et⟩:=qC (ts:=nms) (j:=c' % ((4:Nat):Int)) (bp _ (by decide)) (by rw [hm];exact aZ _ (by decide))
   exact ⟨⟨by decide,by decide⟩,_,et,by omega,_,ts++[t],_,_,by rw [bS];rfl,by rw [az,cb];omega⟩
 . rintro δ ⟨c',ts,s6,s7,rfl,hl⟩
   simp only [aw,aF,↓WS,ite_true,ite_false,ae,decide_eq_true_eq,↓reduceIte]
   exact ⟨_,ew,by decide,w,ts,rfl,by rw [aF] at hl;omega⟩
theorem lM {a:D} {ds:List D} {Q:D->Prop}:wSl (.tup (a::ds)) (some 1) none Q↔Q (.tup ds):=by
 have e1:HT.sIx (a::ds).length 0 (some 1) = 1:=by
  rw [show (1:Int) = ((1:Nat):Int) from rfl,HT.sIx_nat]
  simp
 have e2:HT.sIx (a::ds).length (a::ds).length none = (a::ds).length:=rfl
 unfold wSl slD
 dsimp only
 rw [e1,e2,if_neg (by simp)]
 unfold cutD
 rw [e1,e2]
 simp
end P1
end
section
namespace P1
open PySem L2 PP
theorem xI {i:Int} (h0:0<=i) (h1:i < 1000):i.natAbs.log2 < 1920:=by
 have:i.natAbs < 1000:=by omega
 rcases kA i.natAbs with e | e
 . rw [e];decide
 . have:=(yp (k:=10) (Nat.pos_iff_ne_zero.mp e)).mpr (by omega)
   omega
theorem zl1 {a:D}:[a].length<=sizeLine:=by show 1<=sizeLine;decide
theorem zl2 {a b:D}:[a,b].length<=sizeLine:=by show 2<=sizeLine;decide
theorem zl3 {a b c:D}:[a,b,c].length<=sizeLine:=by show 3<=sizeLine;decide
theorem zl0:([]:List D).length<=sizeLine:=by decide
theorem Kf:(("word":Str) == "word") = true:=by decide +kernel
theorem Ke:(("yes":Str) == "word") = false:=by decide +kernel
theorem Kh:(("no":Str) == "word") = false:=by decide +kernel
theorem Ki:(("not":Str) == "word") = false:=by decide +kernel
theorem Kg (b:Bool):(qs b == "word") = false:=by cases b<;>decide +kernel
theorem Kj (b:B):(b.s == "word") = false:=by cases b<;>decide +kernel
theorem sM (s:Str):dep (D.str s)<=150:=by rw [iN];omega
theorem mR:bI [D.str "all",.str "some"] < 99999:=by decide +kernel
theorem Km (b:Bool):([D.str "all",.str "some"].any fun y=>eqD y (.str (qs b))) = true:=by cases b<;>decide +kernel
theorem Kp (b:B):([D.str "all",.str "some"].any fun y=>eqD y (.str b.s)) = false:=by cases b<;>decide +kernel
theorem Ko:([D.str "all",.str "some"].any fun y=>eqD y (.str "not")) = false:=by decide +kernel
theorem Kl:([D.str "all",.str "some"].any fun y=>eqD y (.str "yes")) = false:=by decide +kernel
theorem Kn:([D.str "all",.str "some"].any fun y=>eqD y (.str "no")) = false:=by decide +kernel
noncomputable def wd:F->Prop
 | .word _ ts=>ts.length<=3
 | .neg a=>wd a
 | .q _ a=>wd a
 | .bi _ x y=>wd x/\wd y
 | _=>True
noncomputable def JM (m:Nat) (d:D):Prop:=∃ B:F,d = enc B/\hF B<=m/\wd B
theorem HY:∀ A:F,1<=hF A
 | .yes | .no | .word _ _=>ay _
 | .neg _ | .q _ _ | .bi _ _ _=>by simp only [hF];omega
theorem n2:0+1+1<=sizeLine:=by decide
theorem n1:0+1<=sizeLine:=by decide
theorem n0:0<=sizeLine:=by decide
theorem n10:0+1+0<=sizeLine:=by decide
theorem n11:0+1+(0+1)<=sizeLine:=by decide
theorem n12:0+1+(0+1+1)<=sizeLine:=by decide
noncomputable def NN:=And.intro n2 (And.intro n1 (And.intro n0 (And.intro n10 (And.intro n11 n12))))
theorem jz (x:Str):∀ (A:F) (n k m:Nat),wd A->hF A<=n->k+hF A<=100->hF A<=m->gD Gs gls n 19 [enc A,.str x,.int k] (JM m)
 | A,0,k,m,hw,h,hk,hm=>by
   have:=HY A
   omega
 | .word w ts,n+1,k,m,hw,h,hk,hm=>by
   refine bE aW rfl rfl rfl ?_;simp only [aW,init,SI,Nat.reduceAdd,Nat.reduceSub]
   simp only [enc,↓WS,ite_true,ite_false,ae,decide_eq_true_eq,↓reduceIte,Kf]
   refine ⟨by decide,?_⟩
   have ss:=s64
   have hw:ts.length<=3:=hw
   refine ic (g:=D.str) (fun rest δ=>∃ (us:List Str) (s4 s5:Sl),δ = [.val (.tup [.str "word",.str w,.tup (ts.map .str)]),.val (.str x),.val (.int k),.own (us.map .str),s4,s5]/\us.length+rest.length<=3) ?_ ?_ _ _ ⟨[],_,_,rfl,by rw [aF];omega⟩
   . rintro t rest δ ⟨us,s4,s5,rfl,hl⟩
     rw [aw] at hl
     have fin:∀ t:Str,(us.map D.str).length < sizeLine/\∃ (us':List Str) (s4' s5':Sl),([.val (.tup [.str "word",.str w,.tup (ts.map .str)]),.val (.str x),.val (.int k),.own (us.map .str++[.str t]),.val (.str t),s5]:PP.Loc) = [.val (.tup [.str "word",.str w,.tup (ts.map .str)]),.val (.str x),.val (.int k),.own (us'.map .str),s4',s5']/\us'.length+rest.length<=3:=fun t=>⟨by rw [aj];omega,us++[t],_,_,by rw [bS];rfl,by rw [az,cb];omega⟩
     simp only [↓WS,ite_true,ite_false,ae,decide_eq_true_eq,↓reduceIte]
     exact iU (fun _=>⟨xI (by omega) (by omega),fin _⟩) fun _=>fin t
   . rintro δ ⟨us,s4,s5,rfl,hl⟩
     simp only [↓WS,ite_true,ite_false,ae,decide_eq_true_eq,↓reduceIte]
     exact ⟨zl3,.word w us,rfl,hm,by rw [aF] at hl;exact hl⟩
 | .yes,n+1,k,m,hw,h,hk,hm=>by
   refine bE aW rfl rfl rfl ?_;simp only [aW,init,SI,Nat.reduceAdd,Nat.reduceSub]
   simp only [enc,SI,↓lM,↓WS,ite_true,ite_false,ae,decide_eq_true_eq,↓reduceIte,Ke,sM,mR,and_self,true_and,Kl,↓fO,NN]
   exact ⟨.yes,rfl,hm,trivial⟩
 | .no,n+1,k,m,hw,h,hk,hm=>by
   refine bE aW rfl rfl rfl ?_;simp only [aW,init,SI,Nat.reduceAdd,Nat.reduceSub]
   simp only [enc,SI,↓lM,↓WS,ite_true,ite_false,ae,decide_eq_true_eq,↓reduceIte,Kh,sM,mR,and_self,true_and,Kn,↓fO,NN]
   exact ⟨.no,rfl,hm,trivial⟩
 | .neg a,n+1,k,m,hw,h,hk,hm=>by
   simp only [hF] at h hk hm
   refine bE aW rfl rfl rfl ?_;simp only [aW,init,SI,Nat.reduceAdd,Nat.reduceSub]
   simp only [enc,SI,↓lM,↓WS,ite_true,ite_false,ae,decide_eq_true_eq,↓reduceIte,Ki,sM,mR,and_self,true_and,Ko,↓fO,↓gO,↓uN,NN,ae,ite_false,Int.add_zero]
   refine bh (jz x a n k (m - 1) hw (by omega) (by omega) (by omega)) ?_
   rintro _ ⟨B,rfl,h1,h2⟩
   exact ⟨.neg B,rfl,by simp only [hF];omega,h2⟩
 | .q b a,n+1,k,m,hw,h,hk,hm=>by
   simp only [hF] at h hk hm
   refine bE aW rfl rfl rfl ?_;simp only [aW,init,SI,Nat.reduceAdd,Nat.reduceSub]
   simp only [enc,SI,↓lM,↓WS,ite_true,ite_false,ae,decide_eq_true_eq,↓reduceIte,Kg,sM,mR,and_self,true_and,Km,↓fO,↓gO,↓uN,NN]
   refine bh (jz x a n (k+1) (m - 1) hw (by omega) (by omega) (by omega)) ?_
   rintro _ ⟨B,rfl,h1,h2⟩
   exact ⟨.q b B,rfl,by simp only [hF];omega,h2⟩
 | .bi b u v,n+1,k,m,hw,h,hk,hm=>by
   simp only [hF] at h hk hm
   refine bE aW rfl rfl rfl ?_;simp only [aW,init,SI,Nat.reduceAdd,Nat.reduceSub]
   simp only [enc,SI,↓lM,↓WS,ite_true,ite_false,ae,decide_eq_true_eq,↓reduceIte,Kj,sM,mR,and_self,true_and,Kp,↓fO,↓gO,↓uN,NN,ae,ite_false,Int.add_zero]
   refine bh (jz x u n k (m - 1) hw.1 (by omega) (by omega) (by omega)) ?_
   rintro _ ⟨B,rfl,h1,h2⟩
   simp only [jo,List.take_zero,lK,nB,↓WS,ite_true,ite_false,ae,decide_eq_true_eq,↓reduceIte]
   refine bh (jz x v n k (m - 1) hw.2 (by omega) (by omega) (by omega)) ?_
   rintro _ ⟨C,rfl,h3,h4⟩
   exact ⟨.bi b B C,rfl,by simp only [hF];omega,h2,h4⟩
theorem e7:(10:Int) ^ Int.toNat 7 = 10000000:=by decide +kernel
theorem e8:(10:Int) ^ Int.toNat 8 = 100000000:=by decide +kernel
theorem p10 (k:Int) (h0:0<=k) (h1:k<=100):0<=k/\k<=1000000/\Int.natAbs 10 < 2 ^ 64:=⟨h0,by omega,by decide⟩
theorem IW {j:Int} (h0:0<=j) (h1:j < 2):∃ A:F,atI [D.tup [.str "yes"],.tup [.str "no"]] j = some (enc A)/\hF A<=1/\wd A:=by
 rcases (show j = 0\/j = 1 by omega) with rfl | rfl
 . exact ⟨.yes,rfl,by decide,trivial⟩
 . exact ⟨.no,rfl,by decide,trivial⟩
theorem Lo {j:Int} (h0:0<=j) (h1:j < 3):∃ b:B,atI [D.str "and",.str "or",.str "if"] j = some (.str b.s):=by
 rcases (show j = 0\/j = 1\/j = 2 by omega) with rfl | rfl | rfl
 . exact ⟨.and,rfl⟩
 . exact ⟨.or,rfl⟩
 . exact ⟨.imp,rfl⟩
theorem Ld {j:Int} (h0:0<=j) (h1:j < 2):∃ b:Bool,atI [D.str "all",.str "some"] j = some (.str (qs b)):=by
 rcases (show j = 0\/j = 1 by omega) with rfl | rfl
 . exact ⟨true,rfl⟩
 . exact ⟨false,rfl⟩
theorem lr (ws nms:List Str) (hw:ws.length = 3) (hm:nms.length = 4):∀ (m n:Nat) (c:Int),m+5<=n->m<=2->gD Gs gls n 21 [.int c,.lst (ws.map .str),.lst (nms.map .str),.int m] (JM (m+1))
 | m,0,c,h,hl=>by omega
 | m,n+1,c,h,hl=>by
   refine bE bY rfl rfl rfl ?_;simp only [bY,init,SI,Nat.reduceAdd,Nat.reduceSub]
   have k0:=bp c (show (13:Int)≠0 by decide)
   have k1:=aZ c (show (0:Int) < 13 by decide)
   refine pC (R:=fun δ=>δ = [.val (.int (c / 13)),.val (.lst (ws.map .str)),.val (.lst (nms.map .str)),.val (.int m),.val (.int (c % 13)),.no]) 1 _ _ ?_ ?_
   . simp only [lU,↓Az,↓lP,↓WS,ite_true,ite_false,ae,decide_eq_true_eq,↓reduceIte]
     exact ⟨by decide,trivial⟩
   rintro _ rfl
   simp only [oU]
   refine ft.mpr (ui (p:=decide (c % 13 < 2)) (fun h=>by simp only [↓WS,ite_true,ite_false,ae,decide_eq_true_eq,↓reduceIte];exact h) (fun hw2=>?_) fun w1=>gN.mpr (ft.mpr (JC (p:=decide ((m:Int) = 0)) (q:=decide (c % 13 < 7)) (fun h=>by simp only [↓tw,↓pD,↓jS,↓lL,↓tM,↓lO];exact h) (fun h=>by simp only [↓WS,ite_true,ite_false,ae,decide_eq_true_eq,↓reduceIte];exact h) (fun hw2=>?_) fun w2 w3=>gN.mpr ?_)))
   . obtain ⟨A,e,a1,a2⟩:=IW (j:=c % 13) k0 (by simpa using hw2)
     simp only [↓WS,ite_true,ite_false,ae,decide_eq_true_eq,↓reduceIte,zl1,zl2,true_and,e,yr]
     exact ⟨A,rfl,by omega,a2⟩
   . simp only [↓WS,ite_true,ite_false,ae,decide_eq_true_eq,↓reduceIte]
     obtain ⟨n',rfl⟩:∃ n',n = n'+1:=⟨n - 1,by omega⟩
     refine bh (GL n' _ ws nms hw hm) ?_
     rintro _ ⟨w,ts,rfl,hts⟩
     exact ⟨.word w ts,rfl,by simp only [hF];omega,hts⟩
   . have w1:¬ c % 13 < 2:=of_decide_eq_false w1
     have w2:¬ (m:Int) = 0:=of_decide_eq_false w2
     have w3:¬ c % 13 < 7:=of_decide_eq_false w3
     obtain ⟨m',rfl⟩:∃ m',m = m'+1:=⟨m - 1,by omega⟩
     have em:((m'+1:Nat):Int) - 1 = (m':Int):=by omega
     refine pC (R:=fun δ=>∃ A:F,hF A<=m'+1/\wd A/\δ = [.val (.int (c / 13)),.val (.lst (ws.map .str)),.val (.lst (nms.map .str)),.val (.int (m'+1:Nat)),.val (.int (c % 13)),.val (enc A)]) 1 _ _ ?_ ?_
     . simp only [lU,↓Az,em,↓WS,ite_true,ite_false,ae,decide_eq_true_eq,↓reduceIte]
       refine bh (lr ws nms hw hm m' n (c / 13) (by omega) (by omega)) ?_
       rintro _ ⟨A,rfl,a1,a2⟩
       exact ⟨A,a1,a2,rfl⟩
     rintro _ ⟨A,a1,a2,rfl⟩
     simp only [oU]
     refine ft.mpr (ui (p:=decide (c % 13 = 7)) (fun h=>by simp only [↓tw,↓pD,↓jS,↓lL,↓tM,↓lO];exact h) (fun hw2=>?_) fun w4=>gN.mpr (ft.mpr (ui (p:=decide (c % 13 < 11)) (fun h=>by simp only [↓WS,ite_true,ite_false,ae,decide_eq_true_eq,↓reduceIte];exact h) (fun hw2=>?_) fun w5=>gN.mpr ?_)))
     . simp only [↓WS,ite_true,ite_false,ae,decide_eq_true_eq,↓reduceIte,zl2,true_and]
       exact ⟨.neg A,rfl,by simp only [hF];omega,a2⟩
     . have w4:¬ c % 13 = 7:=of_decide_eq_false w4
       have w5:c % 13 < 11:=of_decide_eq_true hw2
       obtain ⟨b,e⟩:=Lo (j:=c % 13 - 8) (by omega) (by omega)
       simp only [↓WS,ite_true,ite_false,ae,decide_eq_true_eq,↓reduceIte,zl3,true_and,e,yr,em,e7]
       refine ⟨p10 _ (by decide) (by decide),by decide,bh (lr ws nms hw hm m' n _ (by omega) (by omega)) ?_⟩
       rintro _ ⟨C,rfl,c1,c2⟩
       exact ⟨.bi b A C,rfl,by simp only [hF];omega,a2,c2⟩
     . have w4:¬ c % 13 = 7:=of_decide_eq_false w4
       have w5:¬ c % 13 < 11:=of_decide_eq_false w5
       obtain ⟨b,e⟩:=Ld (j:=c % 13 - 11) (by omega) (by omega)
       obtain ⟨x,_,ex⟩:=qC (ts:=nms) (j:=c / 13 / 100000000 % ((4:Nat):Int)) (bp _ (by decide)) (by rw [hm];exact aZ _ (by decide))
       simp only [↓WS,ite_true,ite_false,ae,decide_eq_true_eq,↓reduceIte,zl2,true_and,e,yr,e8,aj,hm,ex]
       refine ⟨p10 _ (by decide) (by decide),by decide,by decide,bh (jz x A n 0 (m'+1) a2 (by omega) (by omega) a1) ?_⟩
       rintro _ ⟨C,rfl,c1,c2⟩
       exact ⟨.q b C,rfl,by simp only [hF];omega,c2⟩
end P1
end
section
namespace P1
open PySem L2 PP
theorem Cm {cx:Cl} {δ:PP.Loc} {a:E} {Q:D->PP.Loc->Prop}:wE cx (.ssd a) δ Q↔wE cx a δ fun x δ1=>∃ ds,x = .lst ds/\(ds.all hok && sortable (hW ds) && tot (hW ds)) = true/\Q (.lst (dQ (hW ds))) δ1:=xb.trans (xc fun x _=>by
 cases x with
 | lst k=>refine Iff.trans ?_ Bl.symm;exact xi
 | _=>exact xn fun ⟨_,e,_⟩=>by cases e)
theorem qZ:∀ A:F,sz A+1<=2 ^ hF A
 | .yes | .no | .word _ _=>by simp [sz,hF]
 | .neg a=>by
   have:=qZ a
   simp only [sz,hF,kY]
   omega
 | .q _ a=>by
   have:=qZ a
   simp only [sz,hF,kY]
   omega
 | .bi _ x y=>by
   have h1:=qZ x
   have h2:=qZ y
   have p1:2 ^ hF x<=2 ^ max (hF x) (hF y):=jj (by decide) (Fb _ _)
   have p2:2 ^ hF y<=2 ^ max (hF x) (hF y):=jj (by decide) (Ez _ _)
   simp only [sz,hF,kY]
   omega
noncomputable def kQ (l:List It):Prop:=∀ p∈l,hF p.2<=3
theorem kQ.low {l:List It} (h:kQ l):low l:=fun p hp=>by
 have h1:=qZ p.2
 have h2:2 ^ hF p.2<=2 ^ 3:=jj (by decide) (h p hp)
 omega
theorem vB {l:List It}:∀ {xs:List D},(∀ x∈xs,x∈l.map itD)->∃ l':List It,xs = l'.map itD/\∀ p∈l',p∈l
 | [],_=>⟨[],rfl,fun _ h=>by cases h⟩
 | x::xs,h=>by
   obtain ⟨p,hp,rfl⟩:=aR.mp (h x ak)
   obtain ⟨l',rfl,h'⟩:=vB (xs:=xs) fun y hy=>h y (av _ hy)
   exact ⟨p::l',rfl,fun q hq=>by
    rcases aQ.mp hq with rfl | hq
    . exact hp
    . exact h' q hq⟩
theorem vf (n:Nat) (l:List It) (h:kQ l) (hl:l.length<=60):gD Gs gls (n+1) 22 [.lst (l.map itD),.lst []] fun d=>∃ ones:List It,d = .tup (ones.map itD)/\(∀ p∈ones,p∈l)/\ones.length<=l.length:=by
 have ss:=s64
 have hbs:∀ x∈l.map itD,hb x = true:=fun x hx=>by
  obtain ⟨p,_,rfl⟩:=aR.mp hx
  exact Kb p
 have lo:=h.low
 have nl:(hW (l.map itD)).length<=l.length:=by
  have:=lW (ns:=l.map itD) (mU hbs) fun x hx=>(jI hbs).mp hx
  rwa [aj] at this
 have hs:sortable (hW (l.map itD)) = true:=by
  refine nO (n:=60) (by decide) hbs (fun k nd hk=>?_) (fun x hx=>?_) fun x hx y hy=>?_
  . have:=lW (ns:=l.map itD) nd hk
    rw [aj] at this
    omega
  . obtain ⟨p,_,rfl⟩:=aR.mp hx
    rfl
  . obtain ⟨p,hp,rfl⟩:=aR.mp hx
    obtain ⟨q,hq,rfl⟩:=aR.mp hy
    have:=hJ p (lo p hp)
    have:=hJ q (lo q hq)
    unfold iT
    rw [if_pos (by omega)]
    exact gW (lts fun _=>ltc (kh _ _) (ltn _))
 have ht:tot (hW (l.map itD)) = true:=Ga hs fun d hd=>hbs d ((jI hbs).mp hd)
 have hk:(l.map itD).all hok = true:=by
  rw [bD]
  intro x hx
  obtain ⟨p,hp,rfl⟩:=aR.mp hx
  have:=fx p.2
  have:=h p hp
  have e:bI [enc p.2] = max (dep (enc p.2)) 0:=by unfold bI bI;rfl
  show (hbL [enc p.2] && decide (bI [enc p.2]<=7)) = true
  rw [aa,decide_eq_true_eq,e]
  exact ⟨by simp only [hbL,km,bq],by omega⟩
 obtain ⟨l',e1,h1⟩:=vB (l:=l) (xs:=hW (l.map itD)) fun x hx=>(jI hbs).mp hx
 obtain ⟨ys,e2,pm⟩:=iJ itD l'
 refine bE cz rfl rfl rfl ?_;simp only [cz,init,SI,Nat.reduceAdd,Nat.reduceSub]
 simp only [↓Cm,↓WS,ite_true,ite_false,ae,decide_eq_true_eq,↓reduceIte,cP,hk,hs,ht,bq,true_and,aj,aF]
 refine ⟨by omega,ys,by rw [e1,e2],fun p hp=>h1 p (pm.mem_iff.mp hp),?_⟩
 rw [pm.length_eq]
 rw [e1,aj] at nl
 exact nl
theorem JV {Q:Bool->Prop} (k:Q true):gf .eq CL (.tup [.str "close"]) Q:=qi (by decide +kernel) (by decide +kernel) (by rw [show eqD (D.tup [.str "close"]) (.tup [.str "close"]) = true by decide +kernel];exact k)
theorem GO (n:Nat) (row:List It) (h:low row) (hl:row.length<=1000):PP.run Gs gls (n+2) 4 [.tup (row.map itD),CL] = some (.bl (cl row)):=by
 have w:=mf n row h hl
 apply dJ
 refine bE fF rfl rfl rfl ?_;simp only [fF,init,SI,Nat.reduceAdd,Nat.reduceSub]
 simp only [↓oj,↓WS,ite_true,ite_false,ae,decide_eq_true_eq,↓reduceIte]
 refine JV ?_
 simp only [↓WS,ite_true,ite_false,ae,decide_eq_true_eq,↓reduceIte,bR w]
theorem GP (n:Nat):PP.run Gs gls (n+4) 7 [CL] = some (.int 0):=by kernel_rfl
theorem Dk (n:Nat) (ones others:List It) (h1:low ones) (h2:low others) (l1:ones.length<=1000) (l2:others.length<=1000) (k:clo fun p=>p∈ones\/p∈others):PP.run Gs gls (n+3) 11 [.tup (ones.map itD),.tup (others.map itD),CL] = some (pcl ones others).d:=by
 have w:=Ad n ones others h1 h2 l1 l2 k
 apply dJ
 refine bE bO rfl rfl rfl ?_;simp only [bO,init,SI,Nat.reduceAdd,Nat.reduceSub]
 simp only [↓oj,↓WS,ite_true,ite_false,ae,decide_eq_true_eq,↓reduceIte]
 refine JV ?_
 simp only [↓WS,ite_true,ite_false,ae,decide_eq_true_eq,↓reduceIte,bR w]
theorem Ae (n:Nat) (ones others:List It) (h1:low ones) (h2:low others) (l:ones.length+others.length < 64) (k:clo fun p=>p∈ones\/p∈others):PP.run Gs gls (n+5) 12 [.tup (ones.map itD),.tup (others.map itD),CL] = some (pcl ones others).d:=by
 have w1:=GN (n+2) ones others _ (.inr rfl) (h1.app h2) l
 have lm:=HI (ones++others)
 rw [az] at lm
 have w2:=GO (n+2) (mo (ones++others)) (AD (h1.app h2)) (by omega)
 have c:cl (mo (ones++others)) = true:=(ku (AD (h1.app h2))).mpr (by
  have e:∀ p,p∈mo (ones++others)↔(p∈ones\/p∈others):=fun p=>AB.trans cg
  unfold clo at k ⊢
  simp only [e]
  exact k)
 rw [c] at w2
 have w3:=GP n
 have w4:=Dk (n+1) ones others h1 h2 (by omega) (by omega) k
 apply dJ
 refine bE dA rfl rfl rfl ?_;simp only [dA,init,SI,Nat.reduceAdd,Nat.reduceSub]
 simp only [↓bR w1,↓bR w2,↓bR w3,↓bR w4,cH,↓WS,ite_true,ite_false,ae,decide_eq_true_eq,↓reduceIte]
 rw [if_neg (by decide)]
 trivial
theorem DD {ones others:List It} (h1:low ones) (h2:low others):An ones others = .non\/(An ones others = (pcl ones others).d/\clo fun p=>p∈ones\/p∈others):=by
 have mono:∀ {S T:It->Prop},(∀ p,S p->T p)->clo S->clo T:=fun m k=>by
  rcases k with k | k | ⟨A,a,b⟩
  . exact .inl (m _ k)
  . exact .inr (.inl (m _ k))
  . exact .inr (.inr ⟨A,m _ a,m _ b⟩)
 unfold An pcl
 cases c1:cl ones with
 | true=>exact .inr ⟨rfl,mono (fun p z=>.inl z) ((ku h1).mp c1)⟩
 | false =>
   cases c2:cl others with
   | true=>exact .inr ⟨rfl,mono (fun p z=>.inr z) ((ku h2).mp c2)⟩
   | false =>
     rw [if_neg ai,if_neg ai,if_neg ai,if_neg ai]
     cases c3:shr ones others with
     | cons A r =>
       have:=(lq h2).mp (show A∈shr ones others by rw [c3];exact ak)
       exact .inr ⟨rfl,.inr (.inr ⟨A,.inl this.1,.inr this.2⟩)⟩
     | nil =>
       cases c4:shr others ones with
       | cons A r =>
         have:=(lq h1).mp (show A∈shr others ones by rw [c4];exact ak)
         exact .inr ⟨rfl,.inr (.inr ⟨A,.inr this.1,.inl this.2⟩)⟩
       | nil=>exact .inl rfl
end P1
end
section
namespace P1
open PySem L2 PP
abbrev CF:=List (List D)->List D->Option (List (List D))
noncomputable def w2 (cx:Cl) (f:CF) (i:Nat) (t:PP.T) (δ:PP.Loc) (dss:List (List D)) (Q:O2->Prop):Prop:=∃ o,ev2 cx f i t δ dss = some o/\Q o
noncomputable def w2s (cx:Cl) (f:CF) (i:Nat) (t:Ts) (δ:PP.Loc) (dss:List (List D)) (Q:O2->Prop):Prop:=∃ o,fV cx f i t δ dss = some o/\Q o
noncomputable def zB (cx:Cl) (f:CF) (i:Nat) (t:Ts) (Q:O2->Prop):O2->Prop
 | .nx δ dss=>w2s cx f i t δ dss Q
 | .rt d δ=>Q (.rt d δ)
section
variable {cx:Cl} {f:CF} {i:Nat} {δ:PP.Loc} {dss:List (List D)} {Q:O2->Prop}
theorem iI:w2s cx f i .nil δ dss Q↔Q (.nx δ dss):=by
 unfold w2s fV
 exact yr
theorem dk {t:PP.T} {ts:Ts}:w2s cx f i (.cons t ts) δ dss Q↔w2 cx f i t δ dss (zB cx f i ts Q):=by
 unfold w2s w2
 rw [fV]
 cases ev2 cx f i t δ dss with
 | none=>exact ⟨fun ⟨_,e,_⟩=>by (cases e),fun ⟨_,e,_⟩=>by (cases e)⟩
 | some o =>
   refine Iff.trans ?_ yr.symm
   cases o with
   | nx δ1 d1=>exact aY
   | rt d δ1=>exact yr
theorem dn {ts:Ts}:zB cx f i ts Q (.nx δ dss)↔w2s cx f i ts δ dss Q:=aY
theorem zA {ts:Ts} {d:D}:zB cx f i ts Q (.rt d δ)↔Q (.rt d δ):=aY
theorem pE {j:Nat} {e:E}:w2 cx f i (.asg j e) δ dss Q↔wE cx e δ fun d δ1=>(j≠i)/\iR δ1 j (.val d) fun δ2=>Q (.nx δ2 dss):=by
 unfold w2
 rw [ev2]
 refine yb.trans (xc fun d δ1=>yi.trans ?_)
 exact ⟨fun ⟨⟨a,b⟩,q⟩=>⟨a,b,q⟩,fun ⟨a,b,q⟩=>⟨⟨a,b⟩,q⟩⟩
theorem uP {j:Nat} {e:E}:w2 cx f i (.lasg j e) δ dss Q↔wE cx e (DP i δ dss) fun d _=>(j≠i/\j < δ.length/\PP.lf d = true)/\Q (.nx (δ.set j (.val d)) dss):=by
 unfold w2
 rw [ev2]
 exact yb.trans (xc fun d δ1=>yi)
theorem tP {c:E} {x y:Ts}:w2 cx f i (.ifs c x y) δ dss Q↔wT cx c δ fun k δ1=>if k = true then w2s cx f i x δ1 dss Q else w2s cx f i y δ1 dss Q:=by
 unfold w2
 rw [ev2]
 refine yb.trans (xc fun k δ1=>?_)
 cases k<;>exact aY
theorem zo {a e:E}:w2 cx f i (.app a e) δ dss Q↔wE cx a δ fun x δ1=>∃ n,x = .int n/\wE cx e δ1 fun d δ2=>∃ m,ixN dss.length n = some m/\∃ ds,dss[m]? = some ds/\ds.length < sizeLine/\Q (.nx δ2 (dss.set m (ds++[d]))):=by
 unfold w2
 rw [ev2]
 unfold BD
 constructor
 . rintro ⟨o,e1,q⟩
   obtain ⟨p,e2,e3⟩:=af.mp e1
   cases e3
   obtain ⟨⟨x,δ1⟩,e4,e5⟩:=af.mp e2
   obtain ⟨n,e6,e7⟩:=af.mp e5
   obtain ⟨⟨d,δ2⟩,e8,e9⟩:=af.mp e7
   obtain ⟨m,e10,e11⟩:=af.mp e9
   obtain ⟨ds,e12,e13⟩:=af.mp e11
   dsimp only at e13
   split at e13
   . cases e13
     exact ⟨x,δ1,e4,n,Bd e6,d,δ2,e8,m,e10,ds,e12,‹_›,q⟩
   . cases e13
 . rintro ⟨x,δ1,e4,n,rfl,d,δ2,e8,m,e10,ds,e12,hl,q⟩
   refine ⟨_,?_,q⟩
   rw [e4]
   simp only [kI]
   rw [e8]
   simp only [kI,e10,e12]
   rw [if_pos hl]
   rfl
theorem tQ {wf:Nat} {es:Es}:w2 cx f i (.clo wf es) δ dss Q↔wEs cx es δ fun ds δ1=>(cx.call wf [.tup []]).isSome = true/\∃ dss',f dss ds = some dss'/\Q (.nx δ1 dss'):=by
 unfold w2
 rw [ev2]
 refine yb.trans (xc fun ds δ1=>?_)
 dsimp only
 split
 . rename_i h
   exact ys.trans ⟨fun ⟨x,e,q⟩=>⟨h,x,e,yr.mp q⟩,fun ⟨_,x,e,q⟩=>⟨x,e,yr.mpr q⟩⟩
 . rename_i h
   exact yn fun z=>h z.1
theorem Ct {ss:Ss} {R:D->Prop} (h:wSs cx ss δ fun o=>∃ d δ',o = .rt d δ'/\R d) (q:∀ d δ',R d->Q (.rt d δ')):w2 cx f i (.rest ss) δ dss Q:=by
 obtain ⟨o,e,d,δ',rfl,r⟩:=h
 refine ⟨.rt d δ',?_,q d δ' r⟩
 rw [ev2,e]
theorem FV {j:Nat} {src:PP.It} {b:Ts} {α:Type} (g:α->D) (P:List α->PP.Loc->List (List D)->Prop) (xs:List α) (δ0:PP.Loc) (hs:wI cx src δ fun ds δ1=>ds = xs.map g/\δ1 = δ0)
 (step:∀ x xs δ dss,P (x::xs) δ dss->(j≠i/\j < δ.length)/\w2s cx f i b (δ.set j (.val (g x))) dss fun o=>∃ δ' dss',o = .nx δ' dss'/\P xs δ' dss') (h0:P xs δ0 dss) (fin:∀ δ dss,P [] δ dss->Q (.nx δ dss)):w2 cx f i (.for_ j src b) δ dss Q:=by
 obtain ⟨ds,δ1,e1,rfl,rfl⟩:=hs
 unfold w2
 rw [ev2,e1,kI]
 dsimp only
 clear e1
 induction xs generalizing δ1 dss with
 | nil =>
   refine ⟨_,rfl,fin _ _ h0⟩
 | cons x xs ih =>
   obtain ⟨hj,o,e,δ',dss',rfl,p⟩:=step x xs δ1 dss h0
   obtain ⟨o2,e2,q⟩:=ih (dss:=dss') δ' p
   refine ⟨o2,?_,q⟩
   rw [aI,Bh,if_pos hj,e]
   exact e2
end
end P1
end
section
namespace P1
open PySem L2 PP
noncomputable def two (a b:List It):List (List D):=[a.map itD,b.map itD]
noncomputable def put (k:Bool) (p:It) (ab:List It × List It):List It × List It:=if k then (ab.1++[p],ab.2) else (ab.1,ab.2++[p])
noncomputable def fK (ab:List It × List It):List (List D):=two ab.1 ab.2
theorem jO {ab:List It × List It} {n:Int} (h0:0<=n) (h1:n < 2) (h2:ab.1.length+ab.2.length<=1000) (p:It):∃ m ds k,ixN (fK ab).length n = some m/\(fK ab)[m]? = some ds/\ds.length < sizeLine/\(fK ab).set m (ds++[itD p]) = fK (put k p ab):=by
 have ss:=s64
 rcases (show n = 0\/n = 1 by omega) with rfl | rfl
 . refine ⟨0,_,true,rfl,rfl,by rw [aj];omega,?_⟩
   unfold fK put two
   rw [if_pos rfl,bS]
   rfl
 . refine ⟨1,_,false,rfl,rfl,by rw [aj];omega,?_⟩
   unfold fK put two
   rw [if_neg ai,bS]
   rfl
noncomputable def gd (m:Nat) (ab:List It × List It):Prop:=kQ ab.1/\kQ ab.2/\ab.1.length+ab.2.length<=m
theorem mL {m:Nat} {ab:List It × List It} (h:gd m ab) (k:Bool) {p:It} (hp:hF p.2<=3):gd (m+1) (put k p ab):=by
 obtain ⟨h1,h2,h3⟩:=h
 have ap:∀ {l:List It},kQ l->kQ (l++[p]):=fun h q hq=>by
  rcases cg.mp hq with hq | hq
  . exact h q hq
  . rw [dE.mp hq];exact hp
 unfold put
 cases k
 . exact ⟨h1,ap h2,by show ab.1.length+(ab.2++[p]).length<=_;rw [az,cb];omega⟩
 . exact ⟨ap h1,h2,by show (ab.1++[p]).length+ab.2.length<=_;rw [az,cb];omega⟩
theorem Im (ab:List It × List It) (m:Nat) (h:gd m ab) (hm:m<=100) (w:Int) (h0:0<=w) (h9:w < 9) (A:F) (hA:hF A<=3):∃ ab',clF 2 2 tsC (fK ab) [.int w,enc A] = some (fK ab')/\gd (m+2) ab':=by
 have key:w2s cx0 (fun _ _=>none) 0 tsC [.no,.val (.int w),.val (enc A)] (fK ab) fun o=>∃ δ' ab',o = .nx δ' (fK ab')/\gd (m+2) ab':=by
  have g2:∀ {ab:List It × List It},gd (m+1) ab->gd (m+2) ab:=fun h=>⟨h.1,h.2.1,bK h.2.2 (by omega)⟩
  unfold tsC
  simp only [↓dk,↓tP,↓zo,↓iI,↓dn,↓WS,ite_true,ite_false,ae,decide_eq_true_eq,↓reduceIte,oT]
  have m0:=bp w (show (2:Int)≠0 by decide)
  have m1:=aZ w (show (0:Int) < 2 by decide)
  have hl:=h.2.2
  refine iU (fun w4=>?_) fun w4=>iU (fun w6=>?_) fun w6=>iU (fun w8=>?_) fun w8=>⟨_,ab,rfl,h.1,h.2.1,by omega⟩
  . obtain ⟨i1,ds,k,e1,e2,e3,e4⟩:=jO (ab:=ab) m0 m1 (by omega) (true,A)
    have e4:(fK ab).set i1 (ds++[D.tup [D.str "left",enc A]]) = fK (put k (true,A) ab):=e4
    have g1:=mL h k (p:=(true,A)) hA
    obtain ⟨i2,ds2,k2,f1,f2,f3,f4⟩:=jO (ab:=put k (true,A) ab) (n:=w / 2) (by omega) (by omega) (by have:=g1.2.2;omega) (false,A)
    refine ⟨by decide,zl2,i1,e1,ds,e2,e3,⟨by decide,by decide⟩,zl2,?_⟩
    rw [e4]
    refine ⟨i2,f1,ds2,f2,f3,[.no,.val (.int w),.val (enc A)],put k2 (false,A) (put k (true,A) ab),?_,mL g1 k2 hA⟩
    exact congrArg (O2.nx _) f4
  . obtain ⟨i1,ds,k,e1,e2,e3,e4⟩:=jO (ab:=ab) m0 m1 (by omega) (false,.yes)
    refine ⟨by decide,zl1,zl2,i1,e1,ds,e2,e3,[.no,.val (.int w),.val (enc A)],put k (false,.yes) ab,?_,g2 (mL h k (by show hF F.yes<=3;decide))⟩
    exact congrArg (O2.nx _) e4
  . obtain ⟨i1,ds,k,e1,e2,e3,e4⟩:=jO (ab:=ab) m0 m1 (by omega) (true,.no)
    refine ⟨by decide,zl1,zl2,i1,e1,ds,e2,e3,[.no,.val (.int w),.val (enc A)],put k (true,.no) ab,?_,g2 (mL h k (by show hF F.no<=3;decide))⟩
    exact congrArg (O2.nx _) e4
 obtain ⟨o,e,δ',ab',rfl,g⟩:=key
 refine ⟨ab',?_,g⟩
 unfold clF
 rw [if_pos (show [D.int w,enc A].length = 2 from rfl),show (Sl.no::init 2 [D.int w,enc A]) = [.no,.val (.int w),.val (enc A)] from rfl,e]
end P1
end
section
namespace P1
open PySem L2 PP
theorem mG:∀ A:F,PP.lf (enc A) = true
 | .yes | .no=>by unfold enc;decide +kernel
 | .word w ts=>by
   have:∀ ts:List Str,lfL (ts.map D.str) = true:=fun ts=>by
    induction ts with
    | nil=>unfold lfL;rfl
    | cons t ts ih=>rw [aI];unfold lfL;rw [ih];unfold PP.lf;rfl
   unfold enc
   simp only [PP.lf,lfL,this,bq]
 | .neg a=>by unfold enc;simp only [PP.lf,lfL,mG a,bq]
 | .q b a=>by unfold enc;simp only [PP.lf,lfL,mG a,bq]
 | .bi b x y=>by unfold enc;simp only [PP.lf,lfL,mG x,mG y,bq]
theorem AO (l:List It):PP.lf (.tup (l.map itD)) = true:=by
 unfold PP.lf
 induction l with
 | nil=>unfold lfL;rfl
 | cons p l ih =>
   rw [aI]
   unfold lfL
   rw [ih]
   unfold itD
   simp only [PP.lf,lfL,mG,bq]
theorem mS:dep CL = 1:=by unfold CL;simp only [dep,bI,iN];rfl
theorem Ih {L:Bool} {I:F}:dep (rl L I [CL]) = max (dep (enc I)) 2+1:=by
 unfold rl
 simp only [dep,bI,iN,mS]
 omega
theorem Ee {x:F}:dep (enc (.neg x)) = dep (enc x)+1:=by
 show dep (D.tup [.str "not",enc x]) = _
 simp only [dep,bI,iN]
 omega
theorem Ed {ones others:List It} (h1:kQ ones) (h2:kQ others):dep (pcl ones others).d<=20:=by
 have key:∀ {a b:List It},kQ a->∀ A∈shr a b,dep (enc A)<=4:=fun {a b} h A hA=>by
  unfold shr at hA
  obtain ⟨p,hp,rfl⟩:=aR.mp hA
  have:=h p (eN.mp hp).1
  have:=fx p.2
  omega
 have e0:dep (enc .no) = 1:=by decide +kernel
 have e1:dep (enc .yes) = 1:=by decide +kernel
 unfold pcl R.d
 split
 . simp only [dep,bI,mS,e0];omega
 . split
   . simp only [dep,bI,mS,e1];omega
   . split
     . rename_i A r e
       have:=key h1 A (by rw [e];exact ak)
       simp only [dep,bI,mS];omega
     . split
       . rename_i A r e
         have:=key h2 A (by rw [e];exact ak)
         simp only [dep,bI,Ih,Ee];omega
       . simp only [dep,bI,mS,e0];omega
theorem Lk {r:R} (d:dep r.d<=20) {Q:Bool->Prop} (q:Q true):gf .eq r.d r.d Q:=by
 have e2:=iA r.d (by omega)
 unfold R.d at d e2 ⊢
 unfold dep at d
 exact qi (by omega) (by omega) (by rw [e2];exact q)
theorem JT {r:R} {Q:D->Prop}:gE .isTup [r.d] Q↔Q (.bl true):=yr
theorem Cg {Q:Bool->Prop}:gf .is .non .non Q↔Q true:=yr
theorem IZ {r:R} {Q:Bool->Prop}:gf .is r.d .non Q↔Q false:=yr
theorem e22:(10:Int) ^ Int.toNat 22 = 10000000000000000000000:=by decide +kernel
theorem e24:(10:Int) ^ Int.toNat 24 = 1000000000000000000000000:=by decide +kernel
theorem e25:(10:Int) ^ Int.toNat 25 = 10000000000000000000000000:=by decide +kernel
theorem e26:(10:Int) ^ Int.toNat 26 = 100000000000000000000000000:=by decide +kernel
theorem Gy (c:Int):∃ L,atI [D.str "left",D.str "right"] (c % 2) = some (.str (sd L)):=by
 have a0:=bp c (show (2:Int)≠0 by decide)
 have a1:=aZ c (show (0:Int) < 2 by decide)
 rcases (show c % 2 = 0\/c % 2 = 1 by omega) with h | h
 . rw [h];exact ⟨true,rfl⟩
 . rw [h];exact ⟨false,rfl⟩
section
variable {cx:Cl} {f:CF} {i:Nat} {ts:Ts}
noncomputable def wB (cx:Cl) (f:CF) (i:Nat) (ts:Ts) (ss:Ss) (δ:PP.Loc) (Q:D->Prop):Prop:=∃ d δ',evB f i ts ss cx δ = some (.rt d δ')/\Q d
theorem FT {δ:PP.Loc} {Q:D->Prop} (hi:i < δ.length) (h:w2s cx f i ts (δ.set i .no) [[],[]] fun o=>∃ d δ',o = .rt d δ'/\Q d):wB cx f i ts .nil δ Q:=by
 obtain ⟨o,e,d,δ',rfl,q⟩:=h
 exact ⟨d,δ',by unfold evB;rw [if_pos hi,e],q⟩
theorem uO {s:S} {ss:Ss} {δ:PP.Loc} {Q:D->Prop} (h:wS cx s δ fun o=>∃ δ1,o = .nx δ1/\wB cx f i ts ss δ1 Q):wB cx f i ts (.cons s ss) δ Q:=by
 obtain ⟨o,e,δ1,rfl,d,δ',e2,q⟩:=h
 exact ⟨d,δ',by rw [evB,e];exact e2,q⟩
theorem Fp {ss:Ss} {δ:PP.Loc} {Q:D->Prop} (h:wB cx f i ts ss δ Q):wSs cx (.cons (.opq (evB f i ts ss)) .nil) δ (retS Q):=by
 obtain ⟨d,δ',e,q⟩:=h
 refine ft.mpr ⟨.rt d δ',?_,?_⟩
 . rw [evS];exact e
 . simp only [↓WS,ite_true,ite_false,ae,decide_eq_true_eq,↓reduceIte];exact q
end
end P1
end
section
namespace P1
open PySem L2 PP
noncomputable abbrev CX (n:Nat):Cl:=⟨PP.run Gs gls n,gls,hfs Gs⟩
noncomputable abbrev CC:CF:=clF 2 2 tsC
noncomputable def st (ns:List Int) (ws nms:List Str) (s4 s5 s6 s7 s8 s9 s10:Sl):PP.Loc:=[.val (.lst (ns.map .int)),.val (.lst (ws.map .str)),.val (.lst (nms.map .str)),.no,s4,s5,s6,s7,s8,s9,s10,.no,.no]
theorem Fy {A:F} (h:hF A<=3) {ds:List D} (hd:bI ds < 99999) {Q:Bool->Prop} (q:∀ k,Q k):gf .notin (enc A) (.tup ds) Q:=by
 refine ⟨!(ds.any fun y=>eqD y (enc A)),?_,q _⟩
 show (inD (enc A) (.tup ds)).map (!·) = _
 unfold inD
 dsimp only
 have:=fx A
 rw [if_pos ⟨by omega,hd⟩]
 rfl
theorem turn (ns:List Int) (ws nms:List Str) (hw:ws.length = 3) (hm:nms.length = 4) (k:Nat) (hk:k<=100) (s5 s6 s7:Sl) (ab:List It × List It) (m:Nat) (g:gd m ab) (h100:m<=100) (b:Ts) (hb:∃ src r,ts2 = .cons (.for_ 4 src b) r) :
 w2s (CX 199) CC 3 b (st ns ws nms (.val (.int (4+k))) s5 s6 s7 .no .no .no) (fK ab) fun o=>∃ δ' dss',o = .nx δ' dss'/\∃ s5 s6 s7 ab',δ' = st ns ws nms (.val (.int (4+k))) s5 s6 s7 .no .no .no/\dss' = fK ab'/\gd (m+1) ab':=by
 obtain ⟨src,r,e⟩:=hb
 unfold ts2 at e
 cases e
 unfold st
 simp only [↓dk,↓pE,↓WS,ite_true,ite_false,ae,decide_eq_true_eq,↓reduceIte]
 refine bh (mh 198 ns (4+k) (by omega) (by omega)) ?_
 rintro _ ⟨c,rfl⟩
 refine bh (rO 198 c) ?_
 rintro _ ⟨n,rfl,n0⟩
 obtain ⟨L,eL⟩:=Gy (n / 10000000000000000000000000)
 refine ⟨by decide,?_⟩
 simp only [↓dn,↓dk,↓pE,↓WS,ite_true,ite_false,ae,decide_eq_true_eq,↓reduceIte,e25,zl2,true_and,eL,yr]
 refine ⟨p10 _ (by decide) (by decide),by decide,by decide,by decide,?_⟩
 refine bh (lr ws nms hw hm 1 199 n (by decide) (by decide)) ?_
 rintro _ ⟨A,rfl,hA,_⟩
 have hA3:hF A<=3:=by omega
 refine ⟨by decide,?_⟩
 simp only [↓dn,↓dk,↓tP]
 have hT:wT (CX 199) ((E.cmp .notin (.var 7) (.tup (.cons (.tup (.cons (.str "yes") .nil)) (.cons (.tup (.cons (.str "no") .nil)) .nil)))).or (.cmp .eq (.bin .mod (.bin .fdiv (.var 5) (.bin .pow (.int 10) (.int 26))) (.int 4)) (.int 0))) (st ns ws nms (.val (.int (4+k))) (.val (.int n)) (.val (.str (sd L))) (.val (enc A)) .no .no .no) fun _ δ1=>δ1 = st ns ws nms (.val (.int (4+k))) (.val (.int n)) (.val (.str (sd L))) (.val (enc A)) .no .no .no:=by
  unfold st
  simp only [↓WS,ite_true,ite_false,ae,decide_eq_true_eq,↓reduceIte,zl1,zl2,true_and,e26]
  refine Fy hA3 (by decide +kernel) fun k=>?_
  cases k
  . exact ⟨p10 _ (by decide) (by decide),by decide,by decide,trivial⟩
  . trivial
 obtain ⟨kk,δ1,eT,rfl⟩:=hT
 refine ⟨kk,_,eT,?_⟩
 cases kk with
 | false =>
   simp only [↓iI,↓dn,ae,ite_false]
   exact ⟨_,_,rfl,_,_,_,ab,rfl,rfl,g.1,g.2.1,by have:=g.2.2;omega⟩
 | true =>
   have m0:=bp (n / 1000000000000000000000000) (show (2:Int)≠0 by decide)
   have m1:=aZ (n / 1000000000000000000000000) (show (0:Int) < 2 by decide)
   obtain ⟨i1,ds,kb,e1,e2,e3,e4⟩:=jO (ab:=ab) m0 m1 (by have:=g.2.2;omega) (L,A)
   have e4:(fK ab).set i1 (ds++[D.tup [D.str (sd L),enc A]]) = fK (put kb (L,A) ab):=e4
   unfold st
   simp only [↓iI,↓dn,ite_true,↓dk,↓zo,↓WS,ite_true,ite_false,ae,decide_eq_true_eq,↓reduceIte,oT,e24,zl2,true_and,e1,e2,e3,yr,e4]
   refine ⟨p10 _ (by decide) (by decide),by decide,by decide,?_⟩
   exact ⟨_,_,rfl,_,_,_,put kb (L,A) ab,rfl,rfl,mL g kb hA3⟩
theorem ask (n:Nat) (c:Int) (m:Nat) (ws nms:List Str) (hw:ws.length = 3) (hm:nms.length = 4) (v:Int) (ab:List It × List It) (g:gd m ab) (h100:m<=100) {R:List (List D)->Prop} (q:∀ ab',gd (m+2) ab'->R (fK ab')) :
 gD Gs gls 199 21 [.int c,.lst (ws.map .str),.lst (nms.map .str),.int 2] fun z=>(PP.run Gs gls 199 23 [.tup []]).isSome = true/\∃ dss',CC (fK ab) [.int (v % 9),z] = some dss'/\R dss':=by
 refine bh (lr ws nms hw hm 2 199 c (by decide) (by decide)) ?_
 rintro _ ⟨A,rfl,hA,_⟩
 obtain ⟨ab',e,g'⟩:=Im ab m g h100 (v % 9) (bp _ (by decide)) (aZ _ (by decide)) A hA
 have w:=ka 198 [] (fun p hp=>by cases hp)
 refine ⟨?_,_,e,q ab' g'⟩
 show (PP.run Gs gls 199 23 [.tup []]).isSome = true
 have w':PP.run Gs gls 199 23 [.tup []] = some (.bl (cl [])):=w
 rw [w']
 rfl
noncomputable def EM:Ts:=(.cons (.lasg 9 (.call 22 (.cons (.ix (.var 3) (.int 0)) (.cons (.lst .nil) .nil))))
 (.cons (.lasg 10 (.call 22 (.cons (.ix (.var 3) (.int 1)) (.cons (.lst .nil) .nil))))
 (.cons (.rest (.cons (.asg (.nm 11) (.call 24 (.cons (.var 9) (.cons (.var 10) .nil))))
 (.cons (.ifs (.cmp .is (.var 11) .non)
 (.cons (.ret (.bl true))
 .nil)
 .nil)
 (.cons (.asg (.nm 12) (.call 12 (.cons (.var 9) (.cons (.var 10) (.cons (.tup (.cons (.str "close") .nil)) .nil)))))
 (.cons (.ret (.and (.blt .isTup (.cons (.var 12) .nil)) (.cmp .eq (.var 12) (.var 11))))
 .nil))))) .nil)))
theorem Ib (ns:List Int) (ws nms:List Str) (s4 s5 s6 s7 s8:Sl) (ab:List It × List It) (g:gd 40 ab):w2s (CX 199) CC 3 EM (st ns ws nms s4 s5 s6 s7 s8 .no .no) (fK ab) fun o=>∃ d δ',o = .rt d δ'/\d = .bl true:=by
 obtain ⟨g1,g2,g3⟩:=g
 unfold EM
 have e1:DP 3 (st ns ws nms s4 s5 s6 s7 s8 .no .no) (fK ab) = [.val (.lst (ns.map .int)),.val (.lst (ws.map .str)),.val (.lst (nms.map .str)),.val (.lst [.lst (ab.1.map itD),.lst (ab.2.map itD)]),s4,s5,s6,s7,s8,.no,.no,.no,.no]:=rfl
 have a0:∀ {x y:D},atI [x,y] 0 = some x:=fun {x y}=>atI_nat (j:=0) rfl
 have a1:∀ {x y:D},atI [x,y] 1 = some y:=fun {x y}=>atI_nat (j:=1) rfl
 simp only [↓dk,↓uP,e1,↓WS,ite_true,ite_false,ae,decide_eq_true_eq,↓reduceIte,a0,yr,zl0,true_and]
 refine bh (vf 198 ab.1 g1 (by omega)) ?_
 rintro _ ⟨ones,rfl,o1,o2⟩
 refine ⟨⟨by decide,by show 9 < 13;decide,AO ones⟩,?_⟩
 have e2:(st ns ws nms s4 s5 s6 s7 s8 .no .no).set 9 (.val (.tup (ones.map itD))) = st ns ws nms s4 s5 s6 s7 s8 (.val (.tup (ones.map itD))) .no:=rfl
 have e3:DP 3 (st ns ws nms s4 s5 s6 s7 s8 (.val (.tup (ones.map itD))) .no) (fK ab) = [.val (.lst (ns.map .int)),.val (.lst (ws.map .str)),.val (.lst (nms.map .str)),.val (.lst [.lst (ab.1.map itD),.lst (ab.2.map itD)]),s4,s5,s6,s7,s8,.val (.tup (ones.map itD)),.no,.no,.no]:=rfl
 rw [e2]
 simp only [↓dn,↓dk,↓uP,e3,↓WS,ite_true,ite_false,ae,decide_eq_true_eq,↓reduceIte,a1,yr,zl0,true_and]
 refine bh (vf 198 ab.2 g2 (by omega)) ?_
 rintro _ ⟨others,rfl,p1,p2⟩
 refine ⟨⟨by decide,by show 10 < 13;decide,AO others⟩,?_⟩
 have e4:(st ns ws nms s4 s5 s6 s7 s8 (.val (.tup (ones.map itD))) .no).set 10 (.val (.tup (others.map itD))) = st ns ws nms s4 s5 s6 s7 s8 (.val (.tup (ones.map itD))) (.val (.tup (others.map itD))):=rfl
 rw [e4]
 have r1:kQ ones:=fun p hp=>g1 p (o1 p hp)
 have r2:kQ others:=fun p hp=>g2 p (p1 p hp)
 have w1:=Dp 197 ones others r1.low r2.low
 try simp only [↓dn,↓dk]
 refine Ct (R:=fun d=>d = .bl true) ?_ fun d δ' r=>by
  simp only [↓zA]
  exact ⟨d,δ',rfl,r⟩
 unfold st
 rcases DD r1.low r2.low with z | ⟨z,k⟩
 . rw [z] at w1
   simp only [↓WS,ite_true,ite_false,ae,decide_eq_true_eq,↓reduceIte,bR w1,↓Cg]
   exact ⟨_,_,rfl,rfl⟩
 . rw [z] at w1
   have w2:=Ae 194 ones others r1.low r2.low (by omega) k
   unfold CL at w2
   simp only [↓WS,ite_true,ite_false,ae,decide_eq_true_eq,↓reduceIte,bR w1,↓IZ,zl1,true_and,bR w2,↓JT,ae,ite_false]
   refine Lk (Ed r1 r2) ?_
   exact ⟨_,_,rfl,rfl⟩
theorem tail (ns:List Int) (ws nms:List Str) (hw:ws.length = 3) (hm:nms.length = 4) (s4 s5 s6 s7:Sl) (ab:List It × List It) (g:gd 36 ab) (r:Ts) (hr:∃ src b,ts2 = .cons (.for_ 4 src b) r):w2s (CX 199) CC 3 r (st ns ws nms s4 s5 s6 s7 .no .no .no) (fK ab) fun o=>∃ d δ',o = .rt d δ'/\d = .bl true:=by
 obtain ⟨src,b,e⟩:=hr
 unfold ts2 at e
 cases e
 unfold st
 simp only [↓dk,↓pE,↓WS,ite_true,ite_false,ae,decide_eq_true_eq,↓reduceIte]
 refine bh (mh 198 ns 2 (by decide) (by decide)) ?_
 rintro _ ⟨c,rfl⟩
 refine bh (rO 198 c) ?_
 rintro _ ⟨m,rfl,_⟩
 refine ⟨by decide,?_⟩
 simp only [↓dn,↓dk,↓tQ,↓WS,ite_true,ite_false,ae,decide_eq_true_eq,↓reduceIte,e22]
 refine ⟨p10 _ (by decide) (by decide),by decide,by decide,ask 0 m 36 ws nms hw hm _ ab g (by decide) fun ab g=>?_⟩
 simp only [↓dn,↓dk,↓pE,↓WS,ite_true,ite_false,ae,decide_eq_true_eq,↓reduceIte]
 refine bh (mh 198 ns 3 (by decide) (by decide)) ?_
 rintro _ ⟨c,rfl⟩
 refine bh (rO 198 c) ?_
 rintro _ ⟨n,rfl,_⟩
 refine ⟨by decide,?_⟩
 simp only [↓dn,↓dk,↓tP,↓WS,ite_true,ite_false,ae,decide_eq_true_eq,↓reduceIte,e26,e25]
 refine ⟨p10 _ (by decide) (by decide),by decide,by decide,iU (fun _=>?_) fun _=>⟨p10 _ (by decide) (by decide),by decide,by decide,iU (fun _=>?_) fun _=>?_⟩⟩
 . simp only [↓tQ,↓WS,ite_true,ite_false,ae,decide_eq_true_eq,↓reduceIte,e22]
   refine ⟨p10 _ (by decide) (by decide),by decide,by decide,ask 0 n 38 ws nms hw hm _ ab g (by decide) fun ab g=>?_⟩
   simp only [↓dn,↓iI]
   exact Ib ns ws nms s4 _ s6 s7 _ ab g
 . simp only [↓tQ,↓WS,ite_true,ite_false,ae,decide_eq_true_eq,↓reduceIte,e22]
   refine ⟨p10 _ (by decide) (by decide),by decide,by decide,ask 0 n 38 ws nms hw hm _ ab g (by decide) fun ab g=>?_⟩
   simp only [↓dn,↓iI]
   exact Ib ns ws nms s4 _ s6 s7 _ ab g
 . simp only [↓dn,↓iI]
   exact Ib ns ws nms s4 _ s6 s7 _ ab ⟨g.1,g.2.1,by have:=g.2.2;omega⟩
theorem main (ns:List Int) (hl63:ns.length<=63):PP.run Gs gls 200 25 [.lst (ns.map .int)] = some (.bl true):=by
 apply dJ
 refine bE d_law rfl rfl rfl ?_;simp only [d_law,init,SI,Nat.reduceAdd,Nat.reduceSub]
 refine Fp ?_
 unfold ss2
 refine uO ?_
 simp only [↓WS,ite_true,ite_false,ae,decide_eq_true_eq,↓reduceIte]
 refine bh (Dj 196 ns) ?_
 rintro _ ⟨ws,rfl,hw⟩
 refine ⟨_,rfl,uO ?_⟩
 simp only [↓WS,ite_true,ite_false,ae,decide_eq_true_eq,↓reduceIte]
 refine bh (Dm 196 ns) ?_
 rintro _ ⟨nms,rfl,hm⟩
 refine ⟨_,rfl,FT (by show 3 < 13;decide) ?_⟩
 show w2s (CX 199) CC 3 ts2 (st ns ws nms .no .no .no .no .no .no .no) (fK ([],[])) _
 obtain ⟨src,b,r,et⟩:∃ src b r,ts2 = .cons (.for_ 4 src b) r:=⟨_,_,_,rfl⟩
 have hr:=et
 rw [et]
 refine dk.mpr (FV (fun k:Nat=>D.int (4+k)) (fun xs δ dss=>∃ s4 s5 s6 s7 ab,δ = st ns ws nms s4 s5 s6 s7 .no .no .no/\dss = fK ab/\(∀ k∈xs,k<=100)/\xs.length<=36/\gd (36 - xs.length) ab) (List.range (((if (if 40 < (ns.length:Int) then (40:Int) else ns.length) > 8 then (if 40 < (ns.length:Int) then (40:Int) else ns.length) else 8) - 4).toNat)) (st ns ws nms .no .no .no .no .no .no .no) ?_ ?_ ⟨_,_,_,_,_,rfl,rfl,fun k hk=>?_,?_,?_⟩ ?_)
 . unfold ts2 at hr
   cases hr
   unfold st
   simp only [↓WS,ite_true,ite_false,ae,decide_eq_true_eq,↓reduceIte,aj]
   refine ⟨⟨by decide,by decide,?_,?_⟩,rfl,trivial⟩
   . split
     . split<;>omega
     . omega
   . split
     . split<;>omega
     . omega
 . rintro x xs δ dss ⟨s4,s5,s6,s7,ab,rfl,rfl,hk,hl,g⟩
   rw [aw] at hl g
   refine ⟨⟨by decide,by show 4 < 13;decide⟩,?_⟩
   refine (turn ns ws nms hw hm x (hk x ak) s5 s6 s7 ab _ g (by omega) b ⟨src,r,et⟩).imp fun o ⟨e,δ',dss',q,s5',s6',s7',ab',q1,q2,g'⟩=>⟨e,δ',dss',q,_,s5',s6',s7',ab',q1,q2,fun k hk'=>hk k (av _ hk'),by omega,?_⟩
   rw [show 36 - (xs.length+1)+1 = 36 - xs.length by omega] at g'
   exact g'
 . have:=dR.mp hk
   have h36:((if (if 40 < (ns.length:Int) then (40:Int) else ns.length) > 8 then (if 40 < (ns.length:Int) then (40:Int) else ns.length) else 8) - 4).toNat<=36:=by
    split
    . split<;>omega
    . omega
   omega
 . rw [fc]
   split
   . split<;>omega
   . omega
 . exact ⟨fun p hp=>(by cases hp),fun p hp=>(by cases hp),bA _⟩
 . rintro δ dss ⟨s4,s5,s6,s7,ab,rfl,rfl,_,_,g⟩
   exact tail ns ws nms hw hm s4 s5 s6 s7 ab g r ⟨src,b,et⟩
end P1
end
section
namespace P1
open PySem L2 PP
theorem Lm:nX ⟨nsC,au (top 57),[],[]⟩ 0 "" tsC (aJ (top 57)) = true:=by decide +kernel
theorem KZ:bx nsC psC (au (top 57)):=⟨rfl,rfl,rfl,by decide +kernel,rfl,by decide +kernel,by decide +kernel⟩
theorem JP (n:Nat) (cs:List D) (H:Hp) (a:Addr):¬ FnV H n cs a:=fun ⟨_,_,_,_,_,_,_,_,e,_⟩=>by cases e
theorem nS:dX ⟨bV.ps++bV.loc,au (top 17),cm Gd,gns⟩ bV.body (aJ (top 17)) = true:=by decide +kernel
theorem nG:bx (bV.ps++bV.loc) bV.ps (au (top 17)):=⟨rfl,rfl,rfl,by decide +kernel,rfl,by decide +kernel,by decide +kernel⟩
theorem Ek:dX ⟨fE.ps++fE.loc,au (top 18),cm Gd,gns⟩ fE.body (aJ (top 18)) = true:=by decide +kernel
theorem CY:bx (fE.ps++fE.loc) fE.ps (au (top 18)):=⟨rfl,rfl,rfl,by decide +kernel,rfl,by decide +kernel,by decide +kernel⟩
theorem xU:dX ⟨dB.ps++dB.loc,au (top 19),cm Gd,gns⟩ dB.body (aJ (top 19)) = true:=by decide +kernel
theorem xy:bx (dB.ps++dB.loc) dB.ps (au (top 19)):=⟨rfl,rfl,rfl,by decide +kernel,rfl,by decide +kernel,by decide +kernel⟩
theorem uy:dX ⟨dD.ps++dD.loc,au (top 27),cm Gd,gns⟩ dD.body (aJ (top 27)) = true:=by decide +kernel
theorem ub:bx (dD.ps++dD.loc) dD.ps (au (top 27)):=⟨rfl,rfl,rfl,by decide +kernel,rfl,by decide +kernel,by decide +kernel⟩
theorem El:dX ⟨fF.ps++fF.loc,au (top 32),cm Gd,gns⟩ fF.body (aJ (top 32)) = true:=by decide +kernel
theorem CZ:bx (fF.ps++fF.loc) fF.ps (au (top 32)):=⟨rfl,rfl,rfl,by decide +kernel,rfl,by decide +kernel,by decide +kernel⟩
theorem kT:dX ⟨bU.ps++bU.loc,au (top 33),cm Gd,gns⟩ bU.body (aJ (top 33)) = true:=by decide +kernel
theorem kO:bx (bU.ps++bU.loc) bU.ps (au (top 33)):=⟨rfl,rfl,rfl,by decide +kernel,rfl,by decide +kernel,by decide +kernel⟩
theorem mY:dX ⟨cq.ps++cq.loc,au (top 34),cm Gd,gns⟩ cq.body (aJ (top 34)) = true:=by decide +kernel
theorem md:bx (cq.ps++cq.loc) cq.ps (au (top 34)):=⟨rfl,rfl,rfl,by decide +kernel,rfl,by decide +kernel,by decide +kernel⟩
theorem Em:dX ⟨gv.ps++gv.loc,au (top 35),cm Gd,gns⟩ gv.body (aJ (top 35)) = true:=by decide +kernel
theorem Dc:bx (gv.ps++gv.loc) gv.ps (au (top 35)):=⟨rfl,rfl,rfl,by decide +kernel,rfl,by decide +kernel,by decide +kernel⟩
theorem sP:dX ⟨de.ps++de.loc,au (top 37),cm Gd,gns⟩ de.body (aJ (top 37)) = true:=by decide +kernel
theorem rJ:bx (de.ps++de.loc) de.ps (au (top 37)):=⟨rfl,rfl,rfl,by decide +kernel,rfl,by decide +kernel,by decide +kernel⟩
theorem mW:dX ⟨bN.ps++bN.loc,au (top 38),cm Gd,gns⟩ bN.body (aJ (top 38)) = true:=by decide +kernel
theorem lZ:bx (bN.ps++bN.loc) bN.ps (au (top 38)):=⟨rfl,rfl,rfl,by decide +kernel,rfl,by decide +kernel,by decide +kernel⟩
theorem kU:dX ⟨bJ.ps++bJ.loc,au (top 39),cm Gd,gns⟩ bJ.body (aJ (top 39)) = true:=by decide +kernel
theorem kP:bx (bJ.ps++bJ.loc) bJ.ps (au (top 39)):=⟨rfl,rfl,rfl,by decide +kernel,rfl,by decide +kernel,by decide +kernel⟩
theorem mX:dX ⟨bO.ps++bO.loc,au (top 42),cm Gd,gns⟩ bO.body (aJ (top 42)) = true:=by decide +kernel
theorem ma:bx (bO.ps++bO.loc) bO.ps (au (top 42)):=⟨rfl,rfl,rfl,by decide +kernel,rfl,by decide +kernel,by decide +kernel⟩
theorem xT:dX ⟨dA.ps++dA.loc,au (top 43),cm Gd,gns⟩ dA.body (aJ (top 43)) = true:=by decide +kernel
theorem xx:bx (dA.ps++dA.loc) dA.ps (au (top 43)):=⟨rfl,rfl,rfl,by decide +kernel,rfl,by decide +kernel,by decide +kernel⟩
theorem qv:dX ⟨cA.ps++cA.loc,au (top 45),cm Gd,gns⟩ cA.body (aJ (top 45)) = true:=by decide +kernel
theorem pR:bx (cA.ps++cA.loc) cA.ps (au (top 45)):=⟨rfl,rfl,rfl,by decide +kernel,rfl,by decide +kernel,by decide +kernel⟩
theorem sQ:dX ⟨cK.ps++cK.loc,au (top 46),cm Gd,gns⟩ cK.body (aJ (top 46)) = true:=by decide +kernel
theorem rK:bx (cK.ps++cK.loc) cK.ps (au (top 46)):=⟨rfl,rfl,rfl,by decide +kernel,rfl,by decide +kernel,by decide +kernel⟩
theorem uz:dX ⟨cW.ps++cW.loc,au (top 47),cm Gd,gns⟩ cW.body (aJ (top 47)) = true:=by decide +kernel
theorem uc:bx (cW.ps++cW.loc) cW.ps (au (top 47)):=⟨rfl,rfl,rfl,by decide +kernel,rfl,by decide +kernel,by decide +kernel⟩
theorem nU:dX ⟨bX.ps++bX.loc,au (top 48),cm Gd,gns⟩ bX.body (aJ (top 48)) = true:=by decide +kernel
theorem nI:bx (bX.ps++bX.loc) bX.ps (au (top 48)):=⟨rfl,rfl,rfl,by decide +kernel,rfl,by decide +kernel,by decide +kernel⟩
theorem nT:dX ⟨bW.ps++bW.loc,au (top 49),cm Gd,gns⟩ bW.body (aJ (top 49)) = true:=by decide +kernel
theorem nH:bx (bW.ps++bW.loc) bW.ps (au (top 49)):=⟨rfl,rfl,rfl,by decide +kernel,rfl,by decide +kernel,by decide +kernel⟩
theorem iV:dX ⟨bc.ps++bc.loc,au (top 50),cm Gd,gns⟩ bc.body (aJ (top 50)) = true:=by decide +kernel
theorem iS:bx (bc.ps++bc.loc) bc.ps (au (top 50)):=⟨rfl,rfl,rfl,by decide +kernel,rfl,by decide +kernel,by decide +kernel⟩
theorem nW:dX ⟨aW.ps++aW.loc,au (top 51),cm Gd,gns⟩ aW.body (aJ (top 51)) = true:=by decide +kernel
theorem nK:bx (aW.ps++aW.loc) aW.ps (au (top 51)):=⟨rfl,rfl,rfl,by decide +kernel,rfl,by decide +kernel,by decide +kernel⟩
theorem qt:dX ⟨cy.ps++cy.loc,au (top 52),cm Gd,gns⟩ cy.body (aJ (top 52)) = true:=by decide +kernel
theorem pP:bx (cy.ps++cy.loc) cy.ps (au (top 52)):=⟨rfl,rfl,rfl,by decide +kernel,rfl,by decide +kernel,by decide +kernel⟩
theorem nV:dX ⟨bY.ps++bY.loc,au (top 53),cm Gd,gns⟩ bY.body (aJ (top 53)) = true:=by decide +kernel
theorem nJ:bx (bY.ps++bY.loc) bY.ps (au (top 53)):=⟨rfl,rfl,rfl,by decide +kernel,rfl,by decide +kernel,by decide +kernel⟩
theorem qu:dX ⟨cz.ps++cz.loc,au (top 54),cm Gd,gns⟩ cz.body (aJ (top 54)) = true:=by decide +kernel
theorem pQ:bx (cz.ps++cz.loc) cz.ps (au (top 54)):=⟨rfl,rfl,rfl,by decide +kernel,rfl,by decide +kernel,by decide +kernel⟩
theorem mZ:dX ⟨bP.ps++bP.loc,au (top 55),cm Gd,gns⟩ bP.body (aJ (top 55)) = true:=by decide +kernel
theorem me:bx (bP.ps++bP.loc) bP.ps (au (top 55)):=⟨rfl,rfl,rfl,by decide +kernel,rfl,by decide +kernel,by decide +kernel⟩
theorem jK:dX ⟨br.ps++br.loc,au (top 56),cm Gd,gns⟩ br.body (aJ (top 56)) = true:=by decide +kernel
theorem jx:bx (br.ps++br.loc) br.ps (au (top 56)):=⟨rfl,rfl,rfl,by decide +kernel,rfl,by decide +kernel,by decide +kernel⟩
theorem Io:ckB ⟨d_law.ps++d_law.loc,au (top 58),cm Gd,gns⟩ 3 "_law_closing" ts2 ss2 (aJ (top 58)) = true:=by decide +kernel
theorem GB:bx (d_law.ps++d_law.loc) d_law.ps (au (top 58)):=⟨rfl,rfl,rfl,by decide +kernel,rfl,by decide +kernel,by decide +kernel⟩
theorem all_mk {l:PySem.W.OpenLaw} {w:World} {K:PySem.W.Frag} {h:Heap} {mg:Str->Option Value} {fa:Addr} (X:K.In h) (G:h.Ns mainGlobals mg) (hfa:mg "law" = some (.ref fa))
 {f0 f1 f2 f3 f4 f5 f6 f7 f8 f9 f10 f11 f12 f13 f14 f15 f16 f17 f18 f19 f20 f21 f22 f23 f24 f25:Addr} {od0 an0 od1 an1 od2 an2 od3 an3 od4 an4 od5 an5 od6 an6 od7 an7 od8 an8 od9 an9 od10 an10 od11 an11 od12 an12 od13 an13 od14 an14 od15 an15 od16 an16 od17 an17 od18 an18 od19 an19 od20 an20 od21 an21 od22 an22 od23 an23 od24 an24 od25 an25:Option Addr} {sl0 sl1 sl2 sl3 sl4 sl5 sl6 sl7 sl8 sl9 sl10 sl11 sl12 sl13 sl14 sl15 sl16 sl17 sl18 sl19 sl20 sl21 sl22 sl23 sl24 sl25:Array (Option Value)} {oc0 kV0 dc0 pm0 cd0 ct0 oc1 kV1 dc1 pm1 cd1 ct1 oc2 kV2 dc2 pm2 cd2 ct2 oc3 kV3 dc3 pm3 cd3 ct3 oc4 kV4 dc4 pm4 cd4 ct4 oc5 kV5 dc5 pm5 cd5 ct5 oc6 kV6 dc6 pm6 cd6 ct6 oc7 kV7 dc7 pm7 cd7 ct7 oc8 kV8 dc8 pm8 cd8 ct8 oc9 kV9 dc9 pm9 cd9 ct9 oc10 kV10 dc10 pm10 cd10 ct10 oc11 kV11 dc11 pm11 cd11 ct11 oc12 kV12 dc12 pm12 cd12 ct12 oc13 kV13 dc13 pm13 cd13 ct13 oc14 kV14 dc14 pm14 cd14 ct14 oc15 kV15 dc15 pm15 cd15 ct15 oc16 kV16 dc16 pm16 cd16 ct16 oc17 kV17 dc17 pm17 cd17 ct17 oc18 kV18 dc18 pm18 cd18 ct18 oc19 kV19 dc19 pm19 cd19 ct19 oc20 kV20 dc20 pm20 cd20 ct20 oc21 kV21 dc21 pm21 cd21 ct21 oc22 kV22 dc22 pm22 cd22 ct22 oc23 kV23 dc23 pm23 cd23 ct23 oc24 kV24 dc24 pm24 cd24 ct24 oc25 kV25 dc25 pm25 cd25 ct25:Value}
 (a0:PySem.W.nsIn K mainGlobals "sorted_row" = some (some (.ref f0))) (l0:K.lookup f0 = some ⟨oc0,od0,.func (PySem.W.fnOf "sorted_row" "sorted_row" (bB (top 17)) (aJ (top 17)) (au (top 17)) .none kV0 dc0 pm0 an0 cd0 ct0),sl0⟩) (c0:PySem.W.codeIn K cd0 "sorted_row" = true) (k0:PySem.W.keepIn K (.ref f0) = true)
 (a1:PySem.W.nsIn K mainGlobals "more" = some (some (.ref f1))) (l1:K.lookup f1 = some ⟨oc1,od1,.func (PySem.W.fnOf "more" "more" (bB (top 18)) (aJ (top 18)) (au (top 18)) .none kV1 dc1 pm1 an1 cd1 ct1),sl1⟩) (c1:PySem.W.codeIn K cd1 "more" = true) (k1:PySem.W.keepIn K (.ref f1) = true)
 (a2:PySem.W.nsIn K mainGlobals "closes" = some (some (.ref f2))) (l2:K.lookup f2 = some ⟨oc2,od2,.func (PySem.W.fnOf "closes" "closes" (bB (top 19)) (aJ (top 19)) (au (top 19)) .none kV2 dc2 pm2 an2 cd2 ct2),sl2⟩) (c2:PySem.W.codeIn K cd2 "closes" = true) (k2:PySem.W.keepIn K (.ref f2) = true)
 (a3:PySem.W.nsIn K mainGlobals "kids_of" = some (some (.ref f3))) (l3:K.lookup f3 = some ⟨oc3,od3,.func (PySem.W.fnOf "kids_of" "kids_of" (bB (top 27)) (aJ (top 27)) (au (top 27)) .none kV3 dc3 pm3 an3 cd3 ct3),sl3⟩) (c3:PySem.W.codeIn K cd3 "kids_of" = true) (k3:PySem.W.keepIn K (.ref f3) = true)
 (a4:PySem.W.nsIn K mainGlobals "fits" = some (some (.ref f4))) (l4:K.lookup f4 = some ⟨oc4,od4,.func (PySem.W.fnOf "fits" "fits" (bB (top 32)) (aJ (top 32)) (au (top 32)) .none kV4 dc4 pm4 an4 cd4 ct4),sl4⟩) (c4:PySem.W.codeIn K cd4 "fits" = true) (k4:PySem.W.keepIn K (.ref f4) = true)
 (a5:PySem.W.nsIn K mainGlobals "trees_within" = some (some (.ref f5))) (l5:K.lookup f5 = some ⟨oc5,od5,.func (PySem.W.fnOf "trees_within" "trees_within" (bB (top 33)) (aJ (top 33)) (au (top 33)) .none kV5 dc5 pm5 an5 cd5 ct5),sl5⟩) (c5:PySem.W.codeIn K cd5 "trees_within" = true) (k5:PySem.W.keepIn K (.ref f5) = true)
 (a6:PySem.W.nsIn K mainGlobals "cuts_within" = some (some (.ref f6))) (l6:K.lookup f6 = some ⟨oc6,od6,.func (PySem.W.fnOf "cuts_within" "cuts_within" (bB (top 34)) (aJ (top 34)) (au (top 34)) .none kV6 dc6 pm6 an6 cd6 ct6),sl6⟩) (c6:PySem.W.codeIn K cd6 "cuts_within" = true) (k6:PySem.W.keepIn K (.ref f6) = true)
 (a7:PySem.W.nsIn K mainGlobals "cuts" = some (some (.ref f7))) (l7:K.lookup f7 = some ⟨oc7,od7,.func (PySem.W.fnOf "cuts" "cuts" (bB (top 35)) (aJ (top 35)) (au (top 35)) .none kV7 dc7 pm7 an7 cd7 ct7),sl7⟩) (c7:PySem.W.codeIn K cd7 "cuts" = true) (k7:PySem.W.keepIn K (.ref f7) = true)
 (a8:PySem.W.nsIn K mainGlobals "rules_of" = some (some (.ref f8))) (l8:K.lookup f8 = some ⟨oc8,od8,.func (PySem.W.fnOf "rules_of" "rules_of" (bB (top 37)) (aJ (top 37)) (au (top 37)) .none kV8 dc8 pm8 an8 cd8 ct8),sl8⟩) (c8:PySem.W.codeIn K cd8 "rules_of" = true) (k8:PySem.W.keepIn K (.ref f8) = true)
 (a9:PySem.W.nsIn K mainGlobals "shared_with" = some (some (.ref f9))) (l9:K.lookup f9 = some ⟨oc9,od9,.func (PySem.W.fnOf "shared_with" "shared_with" (bB (top 38)) (aJ (top 38)) (au (top 38)) .none kV9 dc9 pm9 an9 cd9 ct9),sl9⟩) (c9:PySem.W.codeIn K cd9 "shared_with" = true) (k9:PySem.W.keepIn K (.ref f9) = true)
 (a10:PySem.W.nsIn K mainGlobals "parted_close" = some (some (.ref f10))) (l10:K.lookup f10 = some ⟨oc10,od10,.func (PySem.W.fnOf "parted_close" "parted_close" (bB (top 39)) (aJ (top 39)) (au (top 39)) .none kV10 dc10 pm10 an10 cd10 ct10),sl10⟩) (c10:PySem.W.codeIn K cd10 "parted_close" = true) (k10:PySem.W.keepIn K (.ref f10) = true)
 (a11:PySem.W.nsIn K mainGlobals "parted_tree" = some (some (.ref f11))) (l11:K.lookup f11 = some ⟨oc11,od11,.func (PySem.W.fnOf "parted_tree" "parted_tree" (bB (top 42)) (aJ (top 42)) (au (top 42)) .none kV11 dc11 pm11 an11 cd11 ct11),sl11⟩) (c11:PySem.W.codeIn K cd11 "parted_tree" = true) (k11:PySem.W.keepIn K (.ref f11) = true)
 (a12:PySem.W.nsIn K mainGlobals "parted" = some (some (.ref f12))) (l12:K.lookup f12 = some ⟨oc12,od12,.func (PySem.W.fnOf "parted" "parted" (bB (top 43)) (aJ (top 43)) (au (top 43)) .none kV12 dc12 pm12 an12 cd12 ct12),sl12⟩) (c12:PySem.W.codeIn K cd12 "parted" = true) (k12:PySem.W.keepIn K (.ref f12) = true)
 (a13:PySem.W.nsIn K mainGlobals "_law_cell" = some (some (.ref f13))) (l13:K.lookup f13 = some ⟨oc13,od13,.func (PySem.W.fnOf "_law_cell" "_law_cell" (bB (top 45)) (aJ (top 45)) (au (top 45)) .none kV13 dc13 pm13 an13 cd13 ct13),sl13⟩) (c13:PySem.W.codeIn K cd13 "_law_cell" = true) (k13:PySem.W.keepIn K (.ref f13) = true)
 (a14:PySem.W.nsIn K mainGlobals "_law_mix" = some (some (.ref f14))) (l14:K.lookup f14 = some ⟨oc14,od14,.func (PySem.W.fnOf "_law_mix" "_law_mix" (bB (top 46)) (aJ (top 46)) (au (top 46)) .none kV14 dc14 pm14 an14 cd14 ct14),sl14⟩) (c14:PySem.W.codeIn K cd14 "_law_mix" = true) (k14:PySem.W.keepIn K (.ref f14) = true)
 (a15:PySem.W.nsIn K mainGlobals "_law_at" = some (some (.ref f15))) (l15:K.lookup f15 = some ⟨oc15,od15,.func (PySem.W.fnOf "_law_at" "_law_at" (bB (top 47)) (aJ (top 47)) (au (top 47)) .none kV15 dc15 pm15 an15 cd15 ct15),sl15⟩) (c15:PySem.W.codeIn K cd15 "_law_at" = true) (k15:PySem.W.keepIn K (.ref f15) = true)
 (a16:PySem.W.nsIn K mainGlobals "_law_texts" = some (some (.ref f16))) (l16:K.lookup f16 = some ⟨oc16,od16,.func (PySem.W.fnOf "_law_texts" "_law_texts" (bB (top 48)) (aJ (top 48)) (au (top 48)) .none kV16 dc16 pm16 an16 cd16 ct16),sl16⟩) (c16:PySem.W.codeIn K cd16 "_law_texts" = true) (k16:PySem.W.keepIn K (.ref f16) = true)
 (a17:PySem.W.nsIn K mainGlobals "_law_words" = some (some (.ref f17))) (l17:K.lookup f17 = some ⟨oc17,od17,.func (PySem.W.fnOf "_law_words" "_law_words" (bB (top 49)) (aJ (top 49)) (au (top 49)) .none kV17 dc17 pm17 an17 cd17 ct17),sl17⟩) (c17:PySem.W.codeIn K cd17 "_law_words" = true) (k17:PySem.W.keepIn K (.ref f17) = true)
 (a18:PySem.W.nsIn K mainGlobals "_law_names_drawn" = some (some (.ref f18))) (l18:K.lookup f18 = some ⟨oc18,od18,.func (PySem.W.fnOf "_law_names_drawn" "_law_names_drawn" (bB (top 50)) (aJ (top 50)) (au (top 50)) .none kV18 dc18 pm18 an18 cd18 ct18),sl18⟩) (c18:PySem.W.codeIn K cd18 "_law_names_drawn" = true) (k18:PySem.W.keepIn K (.ref f18) = true)
 (a19:PySem.W.nsIn K mainGlobals "_law_bound" = some (some (.ref f19))) (l19:K.lookup f19 = some ⟨oc19,od19,.func (PySem.W.fnOf "_law_bound" "_law_bound" (bB (top 51)) (aJ (top 51)) (au (top 51)) .none kV19 dc19 pm19 an19 cd19 ct19),sl19⟩) (c19:PySem.W.codeIn K cd19 "_law_bound" = true) (k19:PySem.W.keepIn K (.ref f19) = true)
 (a20:PySem.W.nsIn K mainGlobals "_law_word" = some (some (.ref f20))) (l20:K.lookup f20 = some ⟨oc20,od20,.func (PySem.W.fnOf "_law_word" "_law_word" (bB (top 52)) (aJ (top 52)) (au (top 52)) .none kV20 dc20 pm20 an20 cd20 ct20),sl20⟩) (c20:PySem.W.codeIn K cd20 "_law_word" = true) (k20:PySem.W.keepIn K (.ref f20) = true)
 (a21:PySem.W.nsIn K mainGlobals "_law_claim" = some (some (.ref f21))) (l21:K.lookup f21 = some ⟨oc21,od21,.func (PySem.W.fnOf "_law_claim" "_law_claim" (bB (top 53)) (aJ (top 53)) (au (top 53)) .none kV21 dc21 pm21 an21 cd21 ct21),sl21⟩) (c21:PySem.W.codeIn K cd21 "_law_claim" = true) (k21:PySem.W.keepIn K (.ref f21) = true)
 (a22:PySem.W.nsIn K mainGlobals "_law_more" = some (some (.ref f22))) (l22:K.lookup f22 = some ⟨oc22,od22,.func (PySem.W.fnOf "_law_more" "_law_more" (bB (top 54)) (aJ (top 54)) (au (top 54)) .none kV22 dc22 pm22 an22 cd22 ct22),sl22⟩) (c22:PySem.W.codeIn K cd22 "_law_more" = true) (k22:PySem.W.keepIn K (.ref f22) = true)
 (a23:PySem.W.nsIn K mainGlobals "_law_closes" = some (some (.ref f23))) (l23:K.lookup f23 = some ⟨oc23,od23,.func (PySem.W.fnOf "_law_closes" "_law_closes" (bB (top 55)) (aJ (top 55)) (au (top 55)) .none kV23 dc23 pm23 an23 cd23 ct23),sl23⟩) (c23:PySem.W.codeIn K cd23 "_law_closes" = true) (k23:PySem.W.keepIn K (.ref f23) = true)
 (a24:PySem.W.nsIn K mainGlobals "_law_close_due" = some (some (.ref f24))) (l24:K.lookup f24 = some ⟨oc24,od24,.func (PySem.W.fnOf "_law_close_due" "_law_close_due" (bB (top 56)) (aJ (top 56)) (au (top 56)) .none kV24 dc24 pm24 an24 cd24 ct24),sl24⟩) (c24:PySem.W.codeIn K cd24 "_law_close_due" = true) (k24:PySem.W.keepIn K (.ref f24) = true)
 (a25:PySem.W.nsIn K mainGlobals "law" = some (some (.ref f25))) (l25:K.lookup f25 = some ⟨oc25,od25,.func (PySem.W.fnOf "law" "law" (bB (top 58)) (aJ (top 58)) (au (top 58)) .none kV25 dc25 pm25 an25 cd25 ct25),sl25⟩) (c25:PySem.W.codeIn K cd25 "law" = true) (k25:PySem.W.keepIn K (.ref f25) = true)
 {fC:Addr} {odC anC:Option Addr} {slC:Array (Option Value)} {ocC kVC dcC pmC cdC ctC:Value}
 (aC:PySem.W.nsIn K mainGlobals "_law_closing" = some (some (.ref fC))) (lC:K.lookup fC = some ⟨ocC,odC,.func (PySem.W.fnOf "_law_closing" "_law_closing" (bB (top 57)) (aJ (top 57)) (au (top 57)) .none kVC dcC pmC anC cdC ctC),slC⟩) (cC:PySem.W.codeIn K cdC "_law_closing" = true) (kC:PySem.W.keepIn K (.ref fC) = true)
 (z0:PySem.W.nsIn K mainGlobals "len" = some none)
 (z1:PySem.W.nsIn K mainGlobals "min" = some none)
 (z2:PySem.W.nsIn K mainGlobals "max" = some none)
 (z3:PySem.W.nsIn K mainGlobals "int" = some none)
 (z4:PySem.W.nsIn K mainGlobals "str" = some none)
 (z5:PySem.W.nsIn K mainGlobals "tuple" = some none)
 (z6:PySem.W.nsIn K mainGlobals "list" = some none)
 (z7:PySem.W.nsIn K mainGlobals "dict" = some none)
 (z8:PySem.W.nsIn K mainGlobals "sum" = some none)
 (z9:PySem.W.nsIn K mainGlobals "isinstance" = some none)
 (z10:PySem.W.nsIn K mainGlobals "bool" = some none)
 (z11:PySem.W.nsIn K mainGlobals "range" = some none)
 (z12:PySem.W.nsIn K mainGlobals "sorted" = some none)
 (z13:PySem.W.nsIn K mainGlobals "set" = some none)
 (z14:PySem.W.nsIn K mainGlobals "zip" = some none)
 (z15:PySem.W.nsIn K mainGlobals "any" = some none)
 (z16:PySem.W.nsIn K mainGlobals "divmod" = some none)
 (z17:PySem.W.nsIn K mainGlobals "reversed" = some none)
 (z18:PySem.W.nsIn K mainGlobals "all" = some none)
 {t0_0:Tok}
 {t0_1:Tok}
 {t0_2:Tok}
 {g0:Addr} {gD0:Option Addr} {gS0:Array (Option Value)} {gn0:Nat} (ga0:PySem.W.nsIn K mainGlobals "LEAVES" = some (some (.ref g0))) (gb0:K.lookup g0 = some ⟨.type "tuple",gD0,.seq #[.str "yes" t0_0,.str "no" t0_1,.str "word" t0_2] gn0,gS0⟩)
 {t1_0:Tok}
 {t1_1:Tok}
 {g1:Addr} {gD1:Option Addr} {gS1:Array (Option Value)} {gn1:Nat} (ga1:PySem.W.nsIn K mainGlobals "BINDERS" = some (some (.ref g1))) (gb1:K.lookup g1 = some ⟨.type "tuple",gD1,.seq #[.str "all" t1_0,.str "some" t1_1] gn1,gS1⟩)
 {g2x0:Addr} {gD2x0:Option Addr} {gS2x0:Array (Option Value)} {gn2x0:Nat} {t2x0_0 t2x0_1:Tok}
 {g2x1:Addr} {gD2x1:Option Addr} {gS2x1:Array (Option Value)} {gn2x1:Nat} {t2x1_0 t2x1_1:Tok}
 {g2x2:Addr} {gD2x2:Option Addr} {gS2x2:Array (Option Value)} {gn2x2:Nat} {t2x2_0 t2x2_1:Tok}
 {g2:Addr} {gD2:Option Addr} {gS2:Array (Option Value)} {gn2:Nat} (ga2:PySem.W.nsIn K mainGlobals "FORKS" = some (some (.ref g2))) (gb2:K.lookup g2 = some ⟨.type "tuple",gD2,.seq #[.ref g2x0,.ref g2x1,.ref g2x2] gn2,gS2⟩)
 (gc2x0:K.lookup g2x0 = some ⟨.type "tuple",gD2x0,.seq #[.str "right" t2x0_0,.str "and" t2x0_1] gn2x0,gS2x0⟩)
 (gc2x1:K.lookup g2x1 = some ⟨.type "tuple",gD2x1,.seq #[.str "left" t2x1_0,.str "or" t2x1_1] gn2x1,gS2x1⟩)
 (gc2x2:K.lookup g2x2 = some ⟨.type "tuple",gD2x2,.seq #[.str "left" t2x2_0,.str "if" t2x2_1] gn2x2,gS2x2⟩)
 {g3x0:Addr} {gD3x0:Option Addr} {gS3x0:Array (Option Value)} {gn3x0:Nat} {t3x0_0 t3x0_1:Tok}
 {g3x1:Addr} {gD3x1:Option Addr} {gS3x1:Array (Option Value)} {gn3x1:Nat} {t3x1_0 t3x1_1:Tok}
 {g3:Addr} {gD3:Option Addr} {gS3:Array (Option Value)} {gn3:Nat} (ga3:PySem.W.nsIn K mainGlobals "OWN" = some (some (.ref g3))) (gb3:K.lookup g3 = some ⟨.type "tuple",gD3,.seq #[.ref g3x0,.ref g3x1] gn3,gS3⟩)
 (gc3x0:K.lookup g3x0 = some ⟨.type "tuple",gD3x0,.seq #[.str "right" t3x0_0,.str "all" t3x0_1] gn3x0,gS3x0⟩)
 (gc3x1:K.lookup g3x1 = some ⟨.type "tuple",gD3x1,.seq #[.str "left" t3x1_0,.str "some" t3x1_1] gn3x1,gS3x1⟩)
 {t4_0:Tok}
 {g4:Addr} {gD4:Option Addr} {gS4:Array (Option Value)} {gn4:Nat} (ga4:PySem.W.nsIn K mainGlobals "CLOSE" = some (some (.ref g4))) (gb4:K.lookup g4 = some ⟨.type "tuple",gD4,.seq #[.str "close" t4_0] gn4,gS4⟩)
 : ∃ (st:Stmt) (fdd:FuncData),(∀ (s:Shared) (u:Value),BindsTo s fdd ⟨[u],[]⟩ [("_law_script",u)])/\Top w K mg Gs Gd gls gns/\Dn K mg (cm Gd) gns d_law st fa fdd/\∀ t∈Tbs.ts,K.lookup t.1 = none/\∃ c,PySem.W.codeHdIn K c t.1 = true:=by
 have e:=hfa.symm.trans (PySem.W.mg_of X G a25)
 cases e
 have FC:=cD (st:=top 57) lC cC kC
 have bC:=FC.binds (ps:=psC) fun _ _ _ _ _ _ us hl=>us3 (fun _ _ _=>rfl) us hl
 have mC:=PySem.W.mg_of X G aC
 have F0:=cD (st:=top 17) l0 c0 k0
 have D0:Dn K mg (cm Gd) gns bV (top 17) _ _:=⟨F0,PySem.W.mg_of X G a0,nG,.inl nS,F0.binds (ps:=bV.ps) fun _ _ _ _ _ _ us hl=>us1 (fun _=>rfl) us hl⟩
 have F1:=cD (st:=top 18) l1 c1 k1
 have D1:Dn K mg (cm Gd) gns fE (top 18) _ _:=⟨F1,PySem.W.mg_of X G a1,CY,.inl Ek,F1.binds (ps:=fE.ps) fun _ _ _ _ _ _ us hl=>us2 (fun _ _=>rfl) us hl⟩
 have F2:=cD (st:=top 19) l2 c2 k2
 have D2:Dn K mg (cm Gd) gns dB (top 19) _ _:=⟨F2,PySem.W.mg_of X G a2,xy,.inl xU,F2.binds (ps:=dB.ps) fun _ _ _ _ _ _ us hl=>us1 (fun _=>rfl) us hl⟩
 have F3:=cD (st:=top 27) l3 c3 k3
 have D3:Dn K mg (cm Gd) gns dD (top 27) _ _:=⟨F3,PySem.W.mg_of X G a3,ub,.inl uy,F3.binds (ps:=dD.ps) fun _ _ _ _ _ _ us hl=>us1 (fun _=>rfl) us hl⟩
 have F4:=cD (st:=top 32) l4 c4 k4
 have D4:Dn K mg (cm Gd) gns fF (top 32) _ _:=⟨F4,PySem.W.mg_of X G a4,CZ,.inl El,F4.binds (ps:=fF.ps) fun _ _ _ _ _ _ us hl=>us2 (fun _ _=>rfl) us hl⟩
 have F5:=cD (st:=top 33) l5 c5 k5
 have D5:Dn K mg (cm Gd) gns bU (top 33) _ _:=⟨F5,PySem.W.mg_of X G a5,kO,.inl kT,F5.binds (ps:=bU.ps) fun _ _ _ _ _ _ us hl=>us1 (fun _=>rfl) us hl⟩
 have F6:=cD (st:=top 34) l6 c6 k6
 have D6:Dn K mg (cm Gd) gns cq (top 34) _ _:=⟨F6,PySem.W.mg_of X G a6,md,.inl mY,F6.binds (ps:=cq.ps) fun _ _ _ _ _ _ us hl=>us1 (fun _=>rfl) us hl⟩
 have F7:=cD (st:=top 35) l7 c7 k7
 have D7:Dn K mg (cm Gd) gns gv (top 35) _ _:=⟨F7,PySem.W.mg_of X G a7,Dc,.inl Em,F7.binds (ps:=gv.ps) fun _ _ _ _ _ _ us hl=>us1 (fun _=>rfl) us hl⟩
 have F8:=cD (st:=top 37) l8 c8 k8
 have D8:Dn K mg (cm Gd) gns de (top 37) _ _:=⟨F8,PySem.W.mg_of X G a8,rJ,.inl sP,F8.binds (ps:=de.ps) fun _ _ _ _ _ _ us hl=>us4 (fun _ _ _ _=>rfl) us hl⟩
 have F9:=cD (st:=top 38) l9 c9 k9
 have D9:Dn K mg (cm Gd) gns bN (top 38) _ _:=⟨F9,PySem.W.mg_of X G a9,lZ,.inl mW,F9.binds (ps:=bN.ps) fun _ _ _ _ _ _ us hl=>us2 (fun _ _=>rfl) us hl⟩
 have F10:=cD (st:=top 39) l10 c10 k10
 have D10:Dn K mg (cm Gd) gns bJ (top 39) _ _:=⟨F10,PySem.W.mg_of X G a10,kP,.inl kU,F10.binds (ps:=bJ.ps) fun _ _ _ _ _ _ us hl=>us2 (fun _ _=>rfl) us hl⟩
 have F11:=cD (st:=top 42) l11 c11 k11
 have D11:Dn K mg (cm Gd) gns bO (top 42) _ _:=⟨F11,PySem.W.mg_of X G a11,ma,.inl mX,F11.binds (ps:=bO.ps) fun _ _ _ _ _ _ us hl=>us3 (fun _ _ _=>rfl) us hl⟩
 have F12:=cD (st:=top 43) l12 c12 k12
 have D12:Dn K mg (cm Gd) gns dA (top 43) _ _:=⟨F12,PySem.W.mg_of X G a12,xx,.inl xT,F12.binds (ps:=dA.ps) fun _ _ _ _ _ _ us hl=>us3 (fun _ _ _=>rfl) us hl⟩
 have F13:=cD (st:=top 45) l13 c13 k13
 have D13:Dn K mg (cm Gd) gns cA (top 45) _ _:=⟨F13,PySem.W.mg_of X G a13,pR,.inl qv,F13.binds (ps:=cA.ps) fun _ _ _ _ _ _ us hl=>us2 (fun _ _=>rfl) us hl⟩
 have F14:=cD (st:=top 46) l14 c14 k14
 have D14:Dn K mg (cm Gd) gns cK (top 46) _ _:=⟨F14,PySem.W.mg_of X G a14,rK,.inl sQ,F14.binds (ps:=cK.ps) fun _ _ _ _ _ _ us hl=>us1 (fun _=>rfl) us hl⟩
 have F15:=cD (st:=top 47) l15 c15 k15
 have D15:Dn K mg (cm Gd) gns cW (top 47) _ _:=⟨F15,PySem.W.mg_of X G a15,uc,.inl uz,F15.binds (ps:=cW.ps) fun _ _ _ _ _ _ us hl=>us3 (fun _ _ _=>rfl) us hl⟩
 have F16:=cD (st:=top 48) l16 c16 k16
 have D16:Dn K mg (cm Gd) gns bX (top 48) _ _:=⟨F16,PySem.W.mg_of X G a16,nI,.inl nU,F16.binds (ps:=bX.ps) fun _ _ _ _ _ _ us hl=>us4 (fun _ _ _ _=>rfl) us hl⟩
 have F17:=cD (st:=top 49) l17 c17 k17
 have D17:Dn K mg (cm Gd) gns bW (top 49) _ _:=⟨F17,PySem.W.mg_of X G a17,nH,.inl nT,F17.binds (ps:=bW.ps) fun _ _ _ _ _ _ us hl=>us1 (fun _=>rfl) us hl⟩
 have F18:=cD (st:=top 50) l18 c18 k18
 have D18:Dn K mg (cm Gd) gns bc (top 50) _ _:=⟨F18,PySem.W.mg_of X G a18,iS,.inl iV,F18.binds (ps:=bc.ps) fun _ _ _ _ _ _ us hl=>us1 (fun _=>rfl) us hl⟩
 have F19:=cD (st:=top 51) l19 c19 k19
 have D19:Dn K mg (cm Gd) gns aW (top 51) _ _:=⟨F19,PySem.W.mg_of X G a19,nK,.inl nW,F19.binds (ps:=aW.ps) fun _ _ _ _ _ _ us hl=>us3 (fun _ _ _=>rfl) us hl⟩
 have F20:=cD (st:=top 52) l20 c20 k20
 have D20:Dn K mg (cm Gd) gns cy (top 52) _ _:=⟨F20,PySem.W.mg_of X G a20,pP,.inl qt,F20.binds (ps:=cy.ps) fun _ _ _ _ _ _ us hl=>us3 (fun _ _ _=>rfl) us hl⟩
 have F21:=cD (st:=top 53) l21 c21 k21
 have D21:Dn K mg (cm Gd) gns bY (top 53) _ _:=⟨F21,PySem.W.mg_of X G a21,nJ,.inl nV,F21.binds (ps:=bY.ps) fun _ _ _ _ _ _ us hl=>us4 (fun _ _ _ _=>rfl) us hl⟩
 have F22:=cD (st:=top 54) l22 c22 k22
 have D22:Dn K mg (cm Gd) gns cz (top 54) _ _:=⟨F22,PySem.W.mg_of X G a22,pQ,.inl qu,F22.binds (ps:=cz.ps) fun _ _ _ _ _ _ us hl=>us2 (fun _ _=>rfl) us hl⟩
 have F23:=cD (st:=top 55) l23 c23 k23
 have D23:Dn K mg (cm Gd) gns bP (top 55) _ _:=⟨F23,PySem.W.mg_of X G a23,me,.inl mZ,F23.binds (ps:=bP.ps) fun _ _ _ _ _ _ us hl=>us1 (fun _=>rfl) us hl⟩
 have F24:=cD (st:=top 56) l24 c24 k24
 have D24:Dn K mg (cm Gd) gns br (top 56) _ _:=⟨F24,PySem.W.mg_of X G a24,jx,.inl jK,F24.binds (ps:=br.ps) fun _ _ _ _ _ _ us hl=>us2 (fun _ _=>rfl) us hl⟩
 have F25:=cD (st:=top 58) l25 c25 k25
 have D25:Dn K mg (cm Gd) gns d_law (top 58) _ _:=⟨F25,PySem.W.mg_of X G a25,GB,.inr (fun X cx k C hS hB hK hM=>by subst hK;subst hM;exact KQ C hS hB (Li C (Ik FC KZ rfl rfl (by decide) C.blt C.gds JP Lm) mC kC bC) Io),F25.binds (ps:=d_law.ps) fun _ _ _ _ _ _ us hl=>us1 (fun _=>rfl) us hl⟩
 refine ⟨top 58,PySem.W.fnOf "law" "law" (bB (top 58)) (aJ (top 58)) (au (top 58)) .none kV25 dc25 pm25 an25 cd25 ct25,fun s v=>.of_eq rfl,⟨?_,?_,by decide +kernel,?_,?_,?_,?_⟩,D25,?_⟩
 . exact ⟨⟨_,_,_,D0⟩,⟨_,_,_,D1⟩,⟨_,_,_,D2⟩,⟨_,_,_,D3⟩,⟨_,_,_,D4⟩,⟨_,_,_,D5⟩,⟨_,_,_,D6⟩,⟨_,_,_,D7⟩,⟨_,_,_,D8⟩,⟨_,_,_,D9⟩,⟨_,_,_,D10⟩,⟨_,_,_,D11⟩,⟨_,_,_,D12⟩,⟨_,_,_,D13⟩,⟨_,_,_,D14⟩,⟨_,_,_,D15⟩,⟨_,_,_,D16⟩,⟨_,_,_,D17⟩,⟨_,_,_,D18⟩,⟨_,_,_,D19⟩,⟨_,_,_,D20⟩,⟨_,_,_,D21⟩,⟨_,_,_,D22⟩,⟨_,_,_,D23⟩,⟨_,_,_,D24⟩,⟨_,_,_,D25⟩,trivial⟩
 . intro i fd h
   cases i with
   | zero=>exact h
   | succ i =>
   cases i with
   | zero=>exact h
   | succ i =>
   cases i with
   | zero=>exact h
   | succ i =>
   cases i with
   | zero=>exact h
   | succ i =>
   cases i with
   | zero=>exact h
   | succ i =>
   cases i with
   | zero=>exact h
   | succ i =>
   cases i with
   | zero=>exact h
   | succ i =>
   cases i with
   | zero=>exact h
   | succ i =>
   cases i with
   | zero=>exact h
   | succ i =>
   cases i with
   | zero=>exact h
   | succ i =>
   cases i with
   | zero=>exact h
   | succ i =>
   cases i with
   | zero=>exact h
   | succ i =>
   cases i with
   | zero=>exact h
   | succ i =>
   cases i with
   | zero=>exact h
   | succ i =>
   cases i with
   | zero=>exact h
   | succ i =>
   cases i with
   | zero=>exact h
   | succ i =>
   cases i with
   | zero=>exact h
   | succ i =>
   cases i with
   | zero=>exact h
   | succ i =>
   cases i with
   | zero=>exact h
   | succ i =>
   cases i with
   | zero=>exact h
   | succ i =>
   cases i with
   | zero=>exact h
   | succ i =>
   cases i with
   | zero=>exact h
   | succ i =>
   cases i with
   | zero=>exact h
   | succ i =>
   cases i with
   | zero=>exact h
   | succ i =>
   cases i with
   | zero=>exact h
   | succ i =>
   cases i with
   | zero=>exact h
   | succ i =>
   cases h
 . intro x hx
   have hx:x∈(["len","min","max","int","str","tuple","list","dict","sum","isinstance","bool","range","sorted","set","zip","any","divmod","reversed","all"]:List Str):=hx
   simp only [aQ,fy,or_false] at hx
   rcases hx with rfl | rfl | rfl | rfl | rfl | rfl | rfl | rfl | rfl | rfl | rfl | rfl | rfl | rfl | rfl | rfl | rfl | rfl | rfl
   . exact PySem.W.mg_none_of X G z0
   . exact PySem.W.mg_none_of X G z1
   . exact PySem.W.mg_none_of X G z2
   . exact PySem.W.mg_none_of X G z3
   . exact PySem.W.mg_none_of X G z4
   . exact PySem.W.mg_none_of X G z5
   . exact PySem.W.mg_none_of X G z6
   . exact PySem.W.mg_none_of X G z7
   . exact PySem.W.mg_none_of X G z8
   . exact PySem.W.mg_none_of X G z9
   . exact PySem.W.mg_none_of X G z10
   . exact PySem.W.mg_none_of X G z11
   . exact PySem.W.mg_none_of X G z12
   . exact PySem.W.mg_none_of X G z13
   . exact PySem.W.mg_none_of X G z14
   . exact PySem.W.mg_none_of X G z15
   . exact PySem.W.mg_none_of X G z16
   . exact PySem.W.mg_none_of X G z17
   . exact PySem.W.mg_none_of X G z18
 . intro g x d h1 h2
   cases g with
   | zero =>
     cases h1;cases h2
     refine ⟨.ref g0,.ref g0,PySem.W.mg_of X G ga0,rfl,fun H F=>?_⟩
     unfold Rel
     refine ⟨g0,[.str "yes",.str "no",.str "word"],rfl,.inr ⟨_,_,gn0,gb0,rfl,rfl,by show 3<=sizeLine;decide,.cons ⟨_,rfl⟩ (.cons ⟨_,rfl⟩ (.cons ⟨_,rfl⟩ (.nil)))⟩,?_⟩
     exact aA.cons (cu _) (aA.cons (cu _) (aA.cons (cu _) (aA.nil)))
   | succ g =>
   cases g with
   | zero =>
     cases h1;cases h2
     refine ⟨.ref g1,.ref g1,PySem.W.mg_of X G ga1,rfl,fun H F=>?_⟩
     unfold Rel
     refine ⟨g1,[.str "all",.str "some"],rfl,.inr ⟨_,_,gn1,gb1,rfl,rfl,by show 2<=sizeLine;decide,.cons ⟨_,rfl⟩ (.cons ⟨_,rfl⟩ (.nil))⟩,?_⟩
     exact aA.cons (cu _) (aA.cons (cu _) (aA.nil))
   | succ g =>
   cases g with
   | zero =>
     cases h1;cases h2
     refine ⟨.ref g2,.ref g2,PySem.W.mg_of X G ga2,rfl,fun H F=>?_⟩
     unfold Rel
     refine ⟨g2,[.ref g2x0,.ref g2x1,.ref g2x2],rfl,.inr ⟨_,_,gn2,gb2,rfl,rfl,by show 3<=sizeLine;decide,.cons rfl (.cons rfl (.cons rfl (.nil)))⟩,?_⟩
     have r0:Rel K H F (.tup [.str "right",.str "and"]) (.ref g2x0):=by
      unfold Rel
      refine ⟨g2x0,[.str "right",.str "and"],rfl,.inr ⟨_,_,gn2x0,gc2x0,rfl,rfl,by show 2<=sizeLine;decide,.cons ⟨_,rfl⟩ (.cons ⟨_,rfl⟩ (.nil))⟩,?_⟩
      exact aA.cons (cu _) (aA.cons (cu _) (aA.nil))
     have r1:Rel K H F (.tup [.str "left",.str "or"]) (.ref g2x1):=by
      unfold Rel
      refine ⟨g2x1,[.str "left",.str "or"],rfl,.inr ⟨_,_,gn2x1,gc2x1,rfl,rfl,by show 2<=sizeLine;decide,.cons ⟨_,rfl⟩ (.cons ⟨_,rfl⟩ (.nil))⟩,?_⟩
      exact aA.cons (cu _) (aA.cons (cu _) (aA.nil))
     have r2:Rel K H F (.tup [.str "left",.str "if"]) (.ref g2x2):=by
      unfold Rel
      refine ⟨g2x2,[.str "left",.str "if"],rfl,.inr ⟨_,_,gn2x2,gc2x2,rfl,rfl,by show 2<=sizeLine;decide,.cons ⟨_,rfl⟩ (.cons ⟨_,rfl⟩ (.nil))⟩,?_⟩
      exact aA.cons (cu _) (aA.cons (cu _) (aA.nil))
     exact aA.cons r0 (aA.cons r1 (aA.cons r2 (aA.nil)))
   | succ g =>
   cases g with
   | zero =>
     cases h1;cases h2
     refine ⟨.ref g3,.ref g3,PySem.W.mg_of X G ga3,rfl,fun H F=>?_⟩
     unfold Rel
     refine ⟨g3,[.ref g3x0,.ref g3x1],rfl,.inr ⟨_,_,gn3,gb3,rfl,rfl,by show 2<=sizeLine;decide,.cons rfl (.cons rfl (.nil))⟩,?_⟩
     have r0:Rel K H F (.tup [.str "right",.str "all"]) (.ref g3x0):=by
      unfold Rel
      refine ⟨g3x0,[.str "right",.str "all"],rfl,.inr ⟨_,_,gn3x0,gc3x0,rfl,rfl,by show 2<=sizeLine;decide,.cons ⟨_,rfl⟩ (.cons ⟨_,rfl⟩ (.nil))⟩,?_⟩
      exact aA.cons (cu _) (aA.cons (cu _) (aA.nil))
     have r1:Rel K H F (.tup [.str "left",.str "some"]) (.ref g3x1):=by
      unfold Rel
      refine ⟨g3x1,[.str "left",.str "some"],rfl,.inr ⟨_,_,gn3x1,gc3x1,rfl,rfl,by show 2<=sizeLine;decide,.cons ⟨_,rfl⟩ (.cons ⟨_,rfl⟩ (.nil))⟩,?_⟩
      exact aA.cons (cu _) (aA.cons (cu _) (aA.nil))
     exact aA.cons r0 (aA.cons r1 (aA.nil))
   | succ g =>
   cases g with
   | zero =>
     cases h1;cases h2
     refine ⟨.ref g4,.ref g4,PySem.W.mg_of X G ga4,rfl,fun H F=>?_⟩
     unfold Rel
     refine ⟨g4,[.str "close"],rfl,.inr ⟨_,_,gn4,gb4,rfl,rfl,by show 1<=sizeLine;decide,.cons ⟨_,rfl⟩ (.nil)⟩,?_⟩
     exact aA.cons (cu _) (aA.nil)
   | succ g =>
   cases h1
 . intro g x h1
   cases g with
   | zero=>exact ⟨_,rfl⟩
   | succ g =>
   cases g with
   | zero=>exact ⟨_,rfl⟩
   | succ g =>
   cases g with
   | zero=>exact ⟨_,rfl⟩
   | succ g =>
   cases g with
   | zero=>exact ⟨_,rfl⟩
   | succ g =>
   cases g with
   | zero=>exact ⟨_,rfl⟩
   | succ g =>
   cases h1
 . intro n l h
   cases h
 . intro t ht
   cases ht
end P1
end
section
noncomputable def PySem.W.Fast.tw6798129688686021305:=()
noncomputable def PySem.W.Fast.tw2591607133084818693:=()
noncomputable def PySem.W.Fast.tw8402753945502361927:=()
noncomputable def PySem.W.Fast.tw17860284777205919669:=()
noncomputable def PySem.W.Fast.tw1949199371572286659:=()
noncomputable def PySem.W.Fast.tw13870706069712509493:=()
noncomputable def PySem.W.Fast.tw18332801085109362799:=()
noncomputable def PySem.W.Fast.tw15217537379379119698:=()
noncomputable def PySem.W.Fast.tw14742097031079257499:=()
noncomputable def PySem.W.Fast.tw14810034961102033710:=()
noncomputable def PySem.W.Fast.tw13936961779400550220:=()
noncomputable def PySem.W.Fast.tw14597012010715832244:=()
noncomputable def PySem.W.Fast.tw8434054306396073545:=()
noncomputable def PySem.W.Fast.tw2311799224311541675:=()
noncomputable def PySem.W.Fast.tw17297069178287072173:=()
noncomputable def PySem.W.Fast.tw9361332117190156210:=()
noncomputable def PySem.W.Fast.tw11129734539400644418:=()
noncomputable def PySem.W.Fast.tw6675822967129651288:=()
noncomputable def PySem.W.Fast.tw13749506588420013057:=()
noncomputable def PySem.W.Fast.tw13746150884659661634:=()
noncomputable def PySem.W.Fast.tw16103424282417929547:=()
noncomputable def PySem.W.Fast.tw15847027779428607487:=()
noncomputable def PySem.W.Fast.tw8396519497984862039:=()
noncomputable def PySem.W.Fast.tw3124176688533092244:=()
noncomputable def PySem.W.Fast.tw16338303045560668933:=()
noncomputable def PySem.W.Fast.tw12842232398167195137:=()
noncomputable def PySem.W.Fast.tw4798582541390438867:=()
noncomputable def PySem.W.Fast.tw5641252305577560590:=()
noncomputable def PySem.W.Fast.tw9485436102252587259:=()
noncomputable def PySem.W.Fast.tw4942886458479889059:=()
noncomputable def PySem.W.Fast.tw11490400057234594867:=()
noncomputable def PySem.W.Fast.tw10210482858010688401:=()
noncomputable def PySem.W.Fast.tw10025578807136073979:=()
noncomputable def PySem.W.Fast.tw18017864141356339096:=()
noncomputable def PySem.W.Fast.tw14524870369745134620:=()
noncomputable def PySem.W.Fast.tw13621382470191156503:=()
noncomputable def PySem.W.Fast.tw9936478580330192105:=()
noncomputable def PySem.W.Fast.tw12942149816198273856:=()
noncomputable def PySem.W.Fast.tw14041218240647362648:=()
noncomputable def PySem.W.Fast.tw7504170864144871871:=()
noncomputable def PySem.W.Fast.tw6136109615784332695:=()
noncomputable def PySem.W.Fast.tw8856915038629205747:=()
noncomputable def PySem.W.Fast.tw2029739564768892640:=()
noncomputable def PySem.W.Fast.tw2028775597376680160:=()
noncomputable def PySem.W.Fast.tw721744102249271808:=()
noncomputable def PySem.W.Fast.tw9078568059407499684:=()
noncomputable def PySem.W.Fast.tw13293305364607817690:=()
noncomputable def PySem.W.Fast.tw9055370174894950494:=()
noncomputable def PySem.W.Fast.tw1106675700604427553:=()
noncomputable def PySem.W.Fast.tw2118849485072953358:=()
noncomputable def PySem.W.Fast.tw14935955975422267264:=()
noncomputable def PySem.W.Fast.tw17788560830393653070:=()
noncomputable def PySem.W.Fast.tw10106271822148731048:=()
noncomputable def PySem.W.Fast.tw17163605995316712404:=()
noncomputable def PySem.W.Fast.tw2711760633908331463:=()
noncomputable def PySem.W.Fast.tw12277443622457119718:=()
noncomputable def PySem.W.Fast.tw6293842380986758094:=()
noncomputable def PySem.W.Fast.tw7980761374855844049:=()
noncomputable def PySem.W.Fast.tw16164407845502856121:=()
noncomputable def PySem.W.Fast.tw4017224385190497696:=()
noncomputable def PySem.W.Fast.tw11690803277855717459:=()
noncomputable def PySem.W.Fast.tw17410815558448339244:=()
noncomputable def PySem.W.Fast.tw16099826543753542804:=()
noncomputable def PySem.W.Fast.tw13650513504169294167:=()
noncomputable def PySem.W.Fast.tw9331670712396833176:=()
noncomputable def PySem.W.Fast.tw6902248153671289402:=()
noncomputable def PySem.W.Fast.tw13630535679391606414:=()
noncomputable def PySem.W.Fast.tw9162306760894012854:=()
noncomputable def PySem.W.Fast.tw9019399022849349372:=()
noncomputable def PySem.W.Fast.tw1956841720946340818:=()
noncomputable def PySem.W.Fast.tw14666757439490132130:=()
noncomputable def PySem.W.Fast.tw18000521620872166498:=()
noncomputable def PySem.W.Fast.tw2402434612502968649:=()
noncomputable def PySem.W.Fast.tw12935949838951178232:=()
noncomputable def PySem.W.Fast.tw10834922341946345645:=()
noncomputable def PySem.W.Fast.tw2066803690249611097:=()
noncomputable def PySem.W.Fast.tw14236593277057198080:=()
noncomputable def PySem.W.Fast.tw6129003916184715708:=()
noncomputable def PySem.W.Fast.tw703764434384628179:=()
noncomputable def PySem.W.Fast.tw1225812399677156913:=()
noncomputable def PySem.W.Fast.tw2929406390625277449:=()
noncomputable def PySem.W.Fast.tw6521849874653745510:=()
noncomputable def PySem.W.Fast.tw1773412251515094108:=()
noncomputable def PySem.W.Fast.tw4210924105183661590:=()
noncomputable def PySem.W.Fast.tw8692854765507639642:=()
noncomputable def PySem.W.Fast.tw6004479751213340512:=()
noncomputable def PySem.W.Fast.tw10094696472699414087:=()
noncomputable def PySem.W.Fast.tw13843119797690074750:=()
noncomputable def PySem.W.Fast.tw1744795718535228474:=()
noncomputable def PySem.W.Fast.tw7771004062823838547:=()
noncomputable def PySem.W.Fast.tw2993225403989054638:=()
noncomputable def PySem.W.Fast.tw16797396258290347165:=()
noncomputable def PySem.W.Fast.tw8259240423980654499:=()
noncomputable def PySem.W.Fast.tw6336052078512970247:=()
noncomputable def PySem.W.Fast.tw2887075255992879272:=()
noncomputable def PySem.W.Fast.tw12589567294719969574:=()
noncomputable def PySem.W.Fast.tw974757662737439990:=()
noncomputable def PySem.W.Fast.tw7035046084274310258:=()
noncomputable def PySem.W.Fast.tw11174005076111474708:=()
noncomputable def PySem.W.Fast.tw16599087587254522317:=()
noncomputable def PySem.W.Fast.tw16502327806504939765:=()
noncomputable def PySem.W.Fast.tw16989444935662880354:=()
noncomputable def PySem.W.Fast.tw12975855916129853265:=()
noncomputable def PySem.W.Fast.tw1327583300390214640:=()
noncomputable def PySem.W.Fast.tw6757732150620335520:=()
noncomputable def PySem.W.Fast.tw2827071508171234341:=()
noncomputable def PySem.W.Fast.tw7254796489412250425:=()
noncomputable def PySem.W.Fast.tw5190465184294483049:=()
noncomputable def PySem.W.Fast.tw5524442624379223247:=()
noncomputable def PySem.W.Fast.tw15191352365109958657:=()
noncomputable def PySem.W.Fast.tw14073830331721167431:=()
noncomputable def PySem.W.Fast.tw711617940854528029:=()
noncomputable def PySem.W.Fast.tw3121305683141299155:=()
noncomputable def PySem.W.Fast.tw10145393284297187131:=()
noncomputable def PySem.W.Fast.tw2969807938464213794:=()
noncomputable def PySem.W.Fast.tw11908698445743930270:=()
noncomputable def PySem.W.Fast.tw4146200332284238333:=()
noncomputable def PySem.W.Fast.tw15795496606308934959:=()
noncomputable def PySem.W.Fast.tw17210516569100365559:=()
noncomputable def PySem.W.Fast.tw14489159383281109740:=()
noncomputable def PySem.W.Fast.tw13265741169463970552:=()
noncomputable def PySem.W.Fast.tw11713281766166771629:=()
noncomputable def PySem.W.Fast.tw10479834637758166529:=()
noncomputable def PySem.W.Fast.tw6284468165281779581:=()
noncomputable def PySem.W.Fast.tw1812735540802361694:=()
noncomputable def PySem.W.Fast.tw8565276411604747808:=()
noncomputable def PySem.W.Fast.tw2259583732337783728:=()
noncomputable def PySem.W.Fast.tw4523678920325271174:=()
noncomputable def PySem.W.Fast.tw175130322764914683:=()
noncomputable def PySem.W.Fast.tw15480449220715810263:=()
noncomputable def PySem.W.Fast.tw11031058410894836057:=()
noncomputable def PySem.W.Fast.tw827504862019924245:=()
noncomputable def PySem.W.Fast.tw15947196283156207400:=()
noncomputable def PySem.W.Fast.tw2079049359852749538:=()
noncomputable def PySem.W.Fast.tw1983417134118691671:=()
noncomputable def PySem.W.Fast.tw855132505012670418:=()
noncomputable def PySem.W.Fast.tw2777449550709852287:=()
noncomputable def PySem.W.Fast.tw4686283988894166493:=()
noncomputable def PySem.W.Fast.tw2136899504703551044:=()
noncomputable def PySem.W.Fast.tw16863849964126766987:=()
noncomputable def PySem.W.Fast.tw3061764473664798393:=()
noncomputable def PySem.W.Fast.tw8876184197660282331:=()
noncomputable def PySem.W.Fast.tw8876459891860688607:=()
noncomputable def PySem.W.Fast.tw15506118916515143948:=()
noncomputable def PySem.W.Fast.tw10425489081004248244:=()
noncomputable def PySem.W.Fast.tw14421193549497550411:=()
noncomputable def PySem.W.Fast.tw1229593391432253097:=()
noncomputable def PySem.W.Fast.tw10248848461545857341:=()
noncomputable def PySem.W.Fast.tw3665367443122660136:=()
noncomputable def PySem.W.Fast.tw15110389736520117984:=()
noncomputable def PySem.W.Fast.tw6869843138700958002:=()
noncomputable def PySem.W.Fast.tw17013267821504846735:=()
noncomputable def PySem.W.Fast.tw7474652614971006222:=()
noncomputable def PySem.W.Fast.tw6843291268262634930:=()
noncomputable def PySem.W.Fast.tw9683083551460184085:=()
noncomputable def PySem.W.Fast.tw13482579390087557345:=()
noncomputable def PySem.W.Fast.tw12463932779498558728:=()
noncomputable def PySem.W.Fast.tw17816151685256311773:=()
noncomputable def PySem.W.Fast.tw3429557759512274306:=()
noncomputable def PySem.W.Fast.tw6946811236379026507:=()
noncomputable def PySem.W.Fast.tw3081542559283712324:=()
noncomputable def PySem.W.Fast.tw13083930693574472061:=()
noncomputable def PySem.W.Fast.tw9227382866300925046:=()
noncomputable def PySem.W.Fast.tw844588530321873438:=()
noncomputable def PySem.W.Fast.tw2938021343157791267:=()
noncomputable def PySem.W.Fast.tw10209424249431925125:=()
noncomputable def PySem.W.Fast.tw186269621870223730:=()
noncomputable def PySem.W.Fast.tw10194775307150176922:=()
noncomputable def PySem.W.Fast.tw7485429969291431546:=()
noncomputable def PySem.W.Fast.tw11084681524158714903:=()
noncomputable def PySem.W.Fast.tw4274919043558999452:=()
noncomputable def PySem.W.Fast.tw2648326339287657263:=()
noncomputable def PySem.W.Fast.tw10753286997743101408:=()
noncomputable def PySem.W.Fast.tw15405417442689890715:=()
noncomputable def PySem.W.Fast.tw13203304232370156974:=()
noncomputable def PySem.W.Fast.tw11326233500252143110:=()
noncomputable def PySem.W.Fast.tw8397724416722995800:=()
noncomputable def PySem.W.Fast.tw1532073225875775012:=()
noncomputable def PySem.W.Fast.tw15070724510174173551:=()
noncomputable def PySem.W.Fast.tw4513000560148395576:=()
noncomputable def PySem.W.Fast.tw1524056033073066567:=()
noncomputable def PySem.W.Fast.tw14365105013222823855:=()
noncomputable def PySem.W.Fast.tw6774317507543752448:=()
noncomputable def PySem.W.Fast.tw15155967337651464481:=()
noncomputable def PySem.W.Fast.tw15596131871153064798:=()
noncomputable def PySem.W.Fast.tw12321304604706896209:=()
noncomputable def PySem.W.Fast.tw17294906861886989184:=()
noncomputable def PySem.W.Fast.tw7539902640187188763:=()
noncomputable def PySem.W.Fast.tw6399547638555136873:=()
noncomputable def PySem.W.Fast.tw8933711017101109977:=()
noncomputable def PySem.W.Fast.tw13876253781553442548:=()
noncomputable def PySem.W.Fast.tw14024264628106202865:=()
noncomputable def PySem.W.Fast.tw3820524518697087590:=()
noncomputable def PySem.W.Fast.tw14099421414249967188:=()
noncomputable def PySem.W.Fast.tw2848951682823164345:=()
noncomputable def PySem.W.Fast.tw17006815745110516222:=()
noncomputable def PySem.W.Fast.tw13631926144819967128:=()
noncomputable def PySem.W.Fast.tw12837496513020756300:=()
noncomputable def PySem.W.Fast.tw10268007807795287216:=()
noncomputable def PySem.W.Fast.tw1845463681699347210:=()
noncomputable def PySem.W.Fast.tw15692285446087603054:=()
noncomputable def PySem.W.Fast.tw17211718377673875889:=()
noncomputable def PySem.W.Fast.tw7397274897603010977:=()
noncomputable def PySem.W.Fast.tw10842519256994984126:=()
noncomputable def PySem.W.Fast.tw15209367756584229450:=()
noncomputable def PySem.W.Fast.tw18011436074970427897:=()
noncomputable def PySem.W.Fast.tw6087210278775433905:=()
noncomputable def PySem.W.Fast.tw5232110922809229896:=()
noncomputable def PySem.W.Fast.tw4229087368895302089:=()
noncomputable def PySem.W.Fast.tw3969595393308484241:=()
noncomputable def PySem.W.Fast.tw4098146296779474698:=()
noncomputable def PySem.W.Fast.tw4978842176608258452:=()
noncomputable def PySem.W.Fast.tw5965158289789582025:=()
noncomputable def PySem.W.Fast.tw7928197187245414432:=()
noncomputable def PySem.W.Fast.tw2881039691449322141:=()
noncomputable def PySem.W.Fast.tw11087409525925973688:=()
noncomputable def PySem.W.Fast.tw17375785270671685224:=()
noncomputable def PySem.W.Fast.tw9154445385627044885:=()
noncomputable def PySem.W.Fast.tw15542024992507435755:=()
noncomputable def PySem.W.Fast.tw854130714484249957:=()
noncomputable def PySem.W.Fast.tw4569755146806307429:=()
noncomputable def PySem.W.Fast.tw6369065122179786580:=()
noncomputable def PySem.W.Fast.tw13316741773828690145:=()
noncomputable def PySem.W.Fast.tw2348017518075279510:=()
noncomputable def PySem.W.Fast.tw4994199370483145786:=()
noncomputable def PySem.W.Fast.tw15964880993088852309:=()
noncomputable def PySem.W.Fast.tw14332842302912798173:=()
noncomputable def PySem.W.Fast.tw13068036736061219242:=()
noncomputable def PySem.W.Fast.tw9889211863098379194:=()
noncomputable def PySem.W.Fast.tw10919727655909266761:=()
noncomputable def PySem.W.Fast.tw7232371843623818382:=()
noncomputable def PySem.W.Fast.tw1939255132732273105:=()
noncomputable def PySem.W.Fast.tw3823681268171004296:=()
noncomputable def PySem.W.Fast.tw4822543319668678632:=()
noncomputable def PySem.W.Fast.tw2759509963257908256:=()
noncomputable def PySem.W.Fast.tw4100952860025168395:=()
noncomputable def PySem.W.Fast.tw3698852616328734676:=()
noncomputable def PySem.W.Fast.tw190752042580438277:=()
noncomputable def PySem.W.Fast.tw3491607343183621001:=()
noncomputable def PySem.W.Fast.tw15592740270174159439:=()
noncomputable def PySem.W.Fast.tw8467836142763538705:=()
noncomputable def PySem.W.Fast.tw10991930322600407025:=()
noncomputable def PySem.W.Fast.tw13704749695991104585:=()
noncomputable def PySem.W.Fast.tw16634634492780494613:=()
noncomputable def PySem.W.Fast.tw10413600549353452396:=()
noncomputable def PySem.W.Fast.tw314099191582932211:=()
noncomputable def PySem.W.Fast.tw5190506892309261232:=()
noncomputable def PySem.W.Fast.tw6440676558949532437:=()
noncomputable def PySem.W.Fast.tw18339553437723716276:=()
noncomputable def PySem.W.Fast.tw2799481689583247856:=()
noncomputable def PySem.W.Fast.tw17685540670289313148:=()
noncomputable def PySem.W.Fast.tw8040679389548488398:=()
noncomputable def PySem.W.Fast.tw12928186212799973774:=()
noncomputable def PySem.W.Fast.tw4061647705152116243:=()
noncomputable def PySem.W.Fast.tw6449950805007954392:=()
noncomputable def PySem.W.Fast.tw3311772192928062221:=()
noncomputable def PySem.W.Fast.tw2540720561062452809:=()
noncomputable def PySem.W.Fast.tw11233302123502644023:=()
noncomputable def PySem.W.Fast.tw3617925607973464669:=()
noncomputable def PySem.W.Fast.tw872159100361541413:=()
noncomputable def PySem.W.Fast.tw12212817145673037410:=()
noncomputable def PySem.W.Fast.tw4829985266870567973:=()
noncomputable def PySem.W.Fast.tw4428528302740695246:=()
noncomputable def PySem.W.Fast.tw14805080557200714675:=()
noncomputable def PySem.W.Fast.tw9568347623312585107:=()
noncomputable def PySem.W.Fast.tw3803438576633528840:=()
noncomputable def PySem.W.Fast.tw3756516746639298939:=()
noncomputable def PySem.W.Fast.tw14885466107511345083:=()
noncomputable def PySem.W.Fast.tw13888827471815715574:=()
noncomputable def PySem.W.Fast.tw13533161972985588302:=()
noncomputable def PySem.W.Fast.tw17364532249680647844:=()
noncomputable def PySem.W.Fast.tw12816030671942058724:=()
noncomputable def PySem.W.Fast.tw3607399630510006088:=()
noncomputable def PySem.W.Fast.tw375343684799507062:=()
noncomputable def PySem.W.Fast.tw11117735103448434231:=()
noncomputable def PySem.W.Fast.tw14897056499093470985:=()
noncomputable def PySem.W.Fast.tw9662529212228820029:=()
noncomputable def PySem.W.Fast.tw7450103409241533667:=()
noncomputable def PySem.W.Fast.tw5304115461996323291:=()
noncomputable def PySem.W.Fast.tw1525277636196369282:=()
noncomputable def PySem.W.Fast.tw718235060414880865:=()
noncomputable def PySem.W.Fast.tw5544999460594819504:=()
noncomputable def PySem.W.Fast.tw16740013538370344340:=()
noncomputable def PySem.W.Fast.tw1149089495644928782:=()
noncomputable def PySem.W.Fast.tw3444402470871253272:=()
noncomputable def PySem.W.Fast.tw14032008479529823313:=()
noncomputable def PySem.W.Fast.tw12136091255535627632:=()
noncomputable def PySem.W.Fast.tw1614440897861315532:=()
noncomputable def PySem.W.Fast.tw10654033714091614227:=()
noncomputable def PySem.W.Fast.tw11499138184342438787:=()
noncomputable def PySem.W.Fast.tw15594142031238628217:=()
noncomputable def PySem.W.Fast.tw17960181235643013004:=()
noncomputable def PySem.W.Fast.tw7971504856277669533:=()
noncomputable def PySem.W.Fast.tw16552666357032768256:=()
noncomputable def PySem.W.Fast.tw11245198277396542551:=()
noncomputable def PySem.W.Fast.tw10582816812693907907:=()
noncomputable def PySem.W.Fast.tw10644864443620280469:=()
noncomputable def PySem.W.Fast.tw7714945741128960244:=()
noncomputable def PySem.W.Fast.tw7183542205584934298:=()
noncomputable def PySem.W.Fast.tw9283524243608736077:=()
noncomputable def PySem.W.Fast.tw6387947403173001239:=()
noncomputable def PySem.W.Fast.tw5906366386600690178:=()
noncomputable def PySem.W.Fast.tw14063280261262917481:=()
noncomputable def PySem.W.Fast.tw9667658577895970000:=()
noncomputable def PySem.W.Fast.tw3785405679644397900:=()
noncomputable def PySem.W.Fast.tw7064072617116152444:=()
noncomputable def PySem.W.Fast.tw11404096577652294962:=()
noncomputable def PySem.W.Fast.tw12220777997928787968:=()
noncomputable def PySem.W.Fast.tw12145974757236812512:=()
noncomputable def PySem.W.Fast.tw15058954030634711169:=()
noncomputable def PySem.W.Fast.tw12444766910350443269:=()
noncomputable def PySem.W.Fast.tw9959226566019158370:=()
noncomputable def PySem.W.Fast.tw1916274185278683929:=()
noncomputable def PySem.W.Fast.tw13772750744224429365:=()
noncomputable def PySem.W.Fast.tw18434972664660393323:=()
noncomputable def PySem.W.Fast.tw7472442276826676082:=()
noncomputable def PySem.W.Fast.tw5195783163212522614:=()
noncomputable def PySem.W.Fast.tw14313032673849236259:=()
noncomputable def PySem.W.Fast.tw15023481919633496862:=()
noncomputable def PySem.W.Fast.tw15437748251720411579:=()
noncomputable def PySem.W.Fast.tw4882190689828064014:=()
noncomputable def PySem.W.Fast.tw18361093531980718899:=()
noncomputable def PySem.W.Fast.tw17896251619487661956:=()
noncomputable def PySem.W.Fast.tw5092233691418671745:=()
noncomputable def PySem.W.Fast.tw4298084083930012997:=()
noncomputable def PySem.W.Fast.tw2164467496773601169:=()
open PySem PySem.W PyProof.Rows
set_option maxRecDepth 100000 in
set_option maxHeartbeats 0 in
theorem PySem.Challenge.cw_cutless_k31_a_close_parted_holds : PySem.Challenge.rw_cutless_k31_a_close_parted.Holds := by
 w_on
 refine PySem.W.holds_law (by decide +kernel) fun said=>?_
 k_head;(case hw=>w_witness2)
 k_fill
 refine PP.walk_run (l:=PySem.Challenge.rw_cutless_k31_a_close_parted) (G:=P1.Gs) (Gd:=P1.Gd) (gl:=P1.gls) (gn:=P1.gns) (i:=25) (fd:=P1.d_law) (x:="_law_script") P1.main rfl rfl rfl rfl (fun w h Y=>⟨PySem.W.km_in_of Y,fun t ht=>by cases ht⟩) ?F
 case F =>
  intro w mg fa h KX G hmg
  refine' P1.all_mk (l:=PySem.Challenge.rw_cutless_k31_a_close_parted) (w:=w) KX G hmg ?a0 ?l0 ?c0 ?k0 ?a1 ?l1 ?c1 ?k1 ?a2 ?l2 ?c2 ?k2 ?a3 ?l3 ?c3 ?k3 ?a4 ?l4 ?c4 ?k4 ?a5 ?l5 ?c5 ?k5 ?a6 ?l6 ?c6 ?k6 ?a7 ?l7 ?c7 ?k7 ?a8 ?l8 ?c8 ?k8 ?a9 ?l9 ?c9 ?k9 ?a10 ?l10 ?c10 ?k10 ?a11 ?l11 ?c11 ?k11 ?a12 ?l12 ?c12 ?k12 ?a13 ?l13 ?c13 ?k13 ?a14 ?l14 ?c14 ?k14 ?a15 ?l15 ?c15 ?k15 ?a16 ?l16 ?c16 ?k16 ?a17 ?l17 ?c17 ?k17 ?a18 ?l18 ?c18 ?k18 ?a19 ?l19 ?c19 ?k19 ?a20 ?l20 ?c20 ?k20 ?a21 ?l21 ?c21 ?k21 ?a22 ?l22 ?c22 ?k22 ?a23 ?l23 ?c23 ?k23 ?a24 ?l24 ?c24 ?k24 ?a25 ?l25 ?c25 ?k25 ?aC ?lC ?cC ?kC ?z0 ?z1 ?z2 ?z3 ?z4 ?z5 ?z6 ?z7 ?z8 ?z9 ?z10 ?z11 ?z12 ?z13 ?z14 ?z15 ?z16 ?z17 ?z18 ?ga0 ?gb0 ?ga1 ?gb1 ?ga2 ?gb2 ?gc2x0 ?gc2x1 ?gc2x2 ?ga3 ?gb3 ?gc3x0 ?gc3x1 ?ga4 ?gb4
  (case a0=>k_is)
  (case l0=>k_is)
  (case c0=>k_is)
  (case k0=>k_is)
  (case a1=>k_is)
  (case l1=>k_is)
  (case c1=>k_is)
  (case k1=>k_is)
  (case a2=>k_is)
  (case l2=>k_is)
  (case c2=>k_is)
  (case k2=>k_is)
  (case a3=>k_is)
  (case l3=>k_is)
  (case c3=>k_is)
  (case k3=>k_is)
  (case a4=>k_is)
  (case l4=>k_is)
  (case c4=>k_is)
  (case k4=>k_is)
  (case a5=>k_is)
  (case l5=>k_is)
  (case c5=>k_is)
  (case k5=>k_is)
  (case a6=>k_is)
  (case l6=>k_is)
  (case c6=>k_is)
  (case k6=>k_is)
  (case a7=>k_is)
  (case l7=>k_is)
  (case c7=>k_is)
  (case k7=>k_is)
  (case a8=>k_is)
  (case l8=>k_is)
  (case c8=>k_is)
  (case k8=>k_is)
  (case a9=>k_is)
  (case l9=>k_is)
  (case c9=>k_is)
  (case k9=>k_is)
  (case a10=>k_is)
  (case l10=>k_is)
  (case c10=>k_is)
  (case k10=>k_is)
  (case a11=>k_is)
  (case l11=>k_is)
  (case c11=>k_is)
  (case k11=>k_is)
  (case a12=>k_is)
  (case l12=>k_is)
  (case c12=>k_is)
  (case k12=>k_is)
  (case a13=>k_is)
  (case l13=>k_is)
  (case c13=>k_is)
  (case k13=>k_is)
  (case a14=>k_is)
  (case l14=>k_is)
  (case c14=>k_is)
  (case k14=>k_is)
  (case a15=>k_is)
  (case l15=>k_is)
  (case c15=>k_is)
  (case k15=>k_is)
  (case a16=>k_is)
  (case l16=>k_is)
  (case c16=>k_is)
  (case k16=>k_is)
  (case a17=>k_is)
  (case l17=>k_is)
  (case c17=>k_is)
  (case k17=>k_is)
  (case a18=>k_is)
  (case l18=>k_is)
  (case c18=>k_is)
  (case k18=>k_is)
  (case a19=>k_is)
  (case l19=>k_is)
  (case c19=>k_is)
  (case k19=>k_is)
  (case a20=>k_is)
  (case l20=>k_is)
  (case c20=>k_is)
  (case k20=>k_is)
  (case a21=>k_is)
  (case l21=>k_is)
  (case c21=>k_is)
  (case k21=>k_is)
  (case a22=>k_is)
  (case l22=>k_is)
  (case c22=>k_is)
  (case k22=>k_is)
  (case a23=>k_is)
  (case l23=>k_is)
  (case c23=>k_is)
  (case k23=>k_is)
  (case a24=>k_is)
  (case l24=>k_is)
  (case c24=>k_is)
  (case k24=>k_is)
  (case a25=>k_is)
  (case l25=>k_is)
  (case c25=>k_is)
  (case k25=>k_is)
  (case aC=>k_is)
  (case lC=>k_is)
  (case cC=>k_is)
  (case kC=>k_is)
  (case z0=>k_is)
  (case z1=>k_is)
  (case z2=>k_is)
  (case z3=>k_is)
  (case z4=>k_is)
  (case z5=>k_is)
  (case z6=>k_is)
  (case z7=>k_is)
  (case z8=>k_is)
  (case z9=>k_is)
  (case z10=>k_is)
  (case z11=>k_is)
  (case z12=>k_is)
  (case z13=>k_is)
  (case z14=>k_is)
  (case z15=>k_is)
  (case z16=>k_is)
  (case z17=>k_is)
  (case z18=>k_is)
  (case ga0=>k_is)
  (case gb0=>k_is)
  (case ga1=>k_is)
  (case gb1=>k_is)
  (case ga2=>k_is)
  (case gb2=>k_is)
  (case gc2x0=>k_is)
  (case gc2x1=>k_is)
  (case gc2x2=>k_is)
  (case ga3=>k_is)
  (case gb3=>k_is)
  (case gc3x0=>k_is)
  (case gc3x1=>k_is)
  (case ga4=>k_is)
  (case gb4=>k_is)
end
