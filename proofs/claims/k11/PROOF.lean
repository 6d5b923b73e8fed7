import PyProof.Rows.All
import Wide.All
import OpenK.AllK
import Wide.FinOn
import Lean
import PyProof.EqAt
import PyProof.EqKinds
import PyProof.TupleCall
import KE.KSortAsk
import KE.KIntText
import KE.KMinBuiltin
import PyProof.MeetsStr2
import KE.KTabLook
import PySem.Challenge.RW_cutless_k11_fits
open And renaming intro→ar
open Array renaming length_toList→bp,getElem?_eq_getElem→dB,getElem?_eq_none→vS,toList_append→zk,toList_push→Bc,all_toList→EW
open Array.Perm renaming refl→cJ
open Bool renaming and_eq_true→aa,false_ne_true→aq,false_eq_true→aZ,or_eq_true→cw,eq_iff_iff→dF,true_and→eU,eq_false_iff→fg,true_or→iM,not_true→jD,and_true→jE,and_self→jF,or_eq_false_iff→lE,or_true→ox,false_and→rX,or_false→ur,or_eq_true_iff→AU,not_eq_true'→EV
open Classical renaming byContradiction→pA,choose_spec→rT
open False renaming elim→cB
open ForInStep renaming yield→jC
open Iff renaming rfl→cA
open Int renaming emod_lt_of_pos→bI,emod_nonneg→cg,toNat_natCast→jB,eq_ofNat_of_zero_le→vU
open List renaming length_append→aj,length_cons→ak,length_map→ao,mem_cons_of_mem→au,length_nil→ax,mem_cons_self→ay,getElem?_eq_getElem→az,mem_cons→aC,size_toArray→aD,getElem?_eq_some_iff→aH,replicate→aN,mem_append_right→aO,mem_append→aP,not_mem_nil→aQ,map_cons→aU,length_singleton→aV,getElem?_append_left→aW,map_append→aY,getElem?_append_right→br,mem_singleton→bu,mem_map→bx,range→bC,getElem?_set_ne→bF,getElem?_map→bG,length_set→bR,append_nil→bS,lookup_cons→bT,nodup_cons→bZ,filterMap_cons→cn,zip_cons_cons→cD,length_take→cF,forall_mem_cons→cG,getElem?_set_self→cL,nil_append→cQ,mem_append_left→cV,length_eq_zero_iff→dh,getElem?_replicate→di,length_replicate→du,append_assoc→dG,getElem?_take_of_lt→dO,filter_eq_self→dU,all_eq_true→dY,length_filter_le→eV,getElem?_eq_none→eW,toArray→fG,cons_append→fH,drop_eq_getElem_cons→fL,all_cons→fU,reverse_cons→gh,length_drop→gK,of_mem_zip→iu,map_nil→iL,zip_nil_right→jc,getD_eq_getElem?_getD→jd,nodup_append→jy,any_cons→jA,isEmpty_nil→kb,getElem_mem→ke,any_eq_true→kf,foldl_cons→kK,filterMap_append→kZ,mem_range→lB,mem_of_getElem?→lC,mem_iff_getElem→lD,take→lU,getD→lV,map_congr_left→ma,eraseDups_cons→md,filterMap_nil→mV,length_range→oh,flatMap_cons→oi,all_nil→oj,drop_length→ph,mem_filter→qA,forIn_cons→qB,length_eraseIdx_of_lt→rS,dropLast→uo,getElem?_cons_succ→vO,filter_cons_of_pos→vP,filter_cons_of_neg→vQ,map_map→vT,take_append_drop→xG,mem_of_mem_take→zd,mem_of_mem_drop→ze,length→zf,dropLast_concat→zh,take_succ_cons→AO,replicate_succ→AQ,length_reverse→AR,drop_succ_cons→AS,mem_filterMap→AX,findIdx?_cons→AY,filter_append→AZ,zipIdx_cons→EZ,mem_flatten→Fb,getElem_inj→Fc,Perm→Fe,zipIdx_nil→HA,take_left'→HB,range_succ→HC,length_zip→HD
open Nat renaming le_refl→aB,ne_of_lt→aJ,lt_of_lt_of_le→aS,le_trans→bc,lt_succ_of_lt→bK,lt_irrefl→cu,pow_succ→cz,zero_le→cZ,lt_of_le_of_lt→dt,pow_le_pow_right→fC,ne_of_gt→fK,add_le_add_left→fO,lt_succ_self→gY,le_succ→ik,le_of_lt→iR,min_le_right→qx,pow_pos→qz,le_add_left→qO,sub_self→xD,min_self→xE,add_zero→xF,log2_lt→AM,add_le_add_right→AN,le_succ_of_le→EY,le_max_right→Hy,le_add_right→Hz,not_lt_zero→HZ,min_le_left→Ia,le_max_left→Ib
open Nat.succ renaming inj→lZ
open Option renaming bind_eq_some_iff→ae,bind_eq_bind→ag,map_eq_some_iff→aI,bind_some→cC,isNone_iff_eq_none→cO,map_some→da,pure_def→dA,isSome_iff_exists→rR,getD_some→AV,getD_none→AW
open Option.some renaming inj→bt
open PyProof.Rows renaming slot_tuple_getitem→dr,callWith_type1→gG,listUpdate_at→kJ,AllBare→lX,slicePart_none→nU,SortKind→nV,assignInOrder_cons→qw,get?_update_seq→vN,IsTup→Bb,subscriptTail_builtinR→EM,IntsAre→EU,tail_any→Hu,seqEpoch_at→Hw,bubble_perm→Hx,entry_tuple_getitem→HY,args_tuple_getitem→Lg,Subscript_→Lh,assignInOrder_nil→Lq
open PyProof.Rows.IsTup renaming new→oK
open PySem renaming wpAny_bind→ab,Value→af,Shared→ai,Addr→av,wpAny_pure→aw,Expr→aE,Program→aM,wpAny_newObj_type→aR,Around→ba,World→bj,Heap→bJ,wpAny_call_entry→bM,wpAny_field→bU,wpAny_callSpecial?_slot→cb,sizeLine_eq→cj,wpAny_holding→cE,Stmt→cY,wpAny_seqItems→dE,Scope→dS,FuncData→dW,wpAny_setField→eK,wpAny_askSetting→eM,wpAny_standAt→fu,wpAny_truthy_bool→fE,wpAny_setState_of→fF,Builtin→fX,wpAny_setField_rec→gk,wpAny_Call_Name_kw→gq,wpAny_rule→iI,wpAny_mono→iJ,wpAny_newFunctionEnv→iP,SetTable→iQ,wpAny_passesOwn→ji,Keyword→jz,NameKind→jZ,wpAny_comprehension_free→kI,codeAny_mono→lT,wpAny_loadPart'→lY,wpAny_updateSeq_pair→nR,wpAny_of_eq→nS,Arguments→oy,wpAny_setEntries_of→oH,wpAny_onRaise→oZ,wpAny_attempt→pb,Comprehension→pq,IsPart→qy,wpAny_typeOf→qK,wpAny_setEpoch_of→qL,wpAny_pyIter_list→qM,wpAny_isInstance→uh,noFill_tuple_add→ui,IsPair→uk,typeIs_str→xx,isSubtype_type→xy,Result→xB,Operator→xC,wpAny_newList→AI,seq_tuple_add→AJ,evalPart_none→AK,IsZip→Ba,seqIndex_neg→EN,concat_meets→EO,codeAny_compStart_list→ER,builtinLookup_eq_fast→EX,wpAny_letGo→Ht,seqIndex_of→Hv,GenState→HE,wpAny_pyIter_tuple→Ld,wpAny_call→Le,wpAny_Name→Lf,wpAny_storeSet_of→Li,wpAny_sequenceKey→Lj,wpAny_pyIter_slot→Lk,wpAny_assign_Name→Ll,wpAny_Return_some→Lo,fits_of_scanBound→Lp
open PySem.Around renaming frames_deeper→vV
open PySem.Builtin.Frozenset renaming addrOf→lW
open PySem.Builtin.Int renaming intBits→rW
open PySem.Builtin.List renaming listExtendWith→mT,listTooLong→om,listSameRef→oo
open PySem.Builtin.Slice renaming slicePlaces→bW,sliceApplied→eC,sliceAdjust→gZ,sliceFields→mW
open PySem.Builtin.SmallTypes renaming ownedTupleIsFree→cR,ownedTupleHandOut→je
open PySem.Builtin.Str renaming occurrences→pB,subAt→uq
open PySem.Builtin.Tuple renaming tupleExact→bN,tupleItemsOf→mS
open PySem.Calls renaming Name_function_global→qP,call_function_entry→rV,callWith_builtin→vR
open PySem.Heap renaming get?_push_of_some→ah,lt_size→aA,get?_push_size→aF,size_push→bH,get?_update_other→eI,get?_update_self→eX,SameBut→fI,get?_none_of_le→zi,ExtBut→zj
open PySem.Heap.IsSliceOf renaming new→qC
open PySem.Heap.SameBut renaming update→bO,refl→um
open PySem.NameKind renaming free→bQ,cell→lx
open PySem.Obj renaming mapSeq→bY,mapFields→jY,putSet→ES,data_mapFields→ET
open PySem.PassesOwn renaming never→zc
open PySem.SeqAt.EqAt renaming same→Ff
open PySem.SetTable renaming below→cS,grown→dN,relaid→AL
open PySem.SetTable.below renaming go→ko
open PySem.Str renaming ofString→eN
open PySem.Unicode renaming isDigit→cX
open PySem.Value renaming none→cm,ref→iK,bool→kn,isStrOf→uj,notImplemented→xA
open PySem.W.Looks renaming of_pure→jx
open PySem.pickOrder renaming go→qN
open Sum renaming inr→oI,inl→oJ
open True renaming intro→mU
set_option Elab.async false
set_option linter.all false
set_option genInjectivity false
set_option genSizeOf false
set_option maxRecDepth 100000
set_option maxHeartbeats 4000000
section
-- CHANGE: your row's module here,as the last of these rows
namespace L2
open PySem PySem.Spec PyProof.Rows
abbrev Key:=Sum Int Str
noncomputable def HN:Key->af->Bool
 | .inl k,v=>Value.isInt k v
 | .inr x,v=>uj x v
noncomputable def NI (w:bj):Key->Int
 | .inl k=>hashInt k
 | .inr x=>hashStr w x
theorem dw:∀ {k:Key} {v:af},HN k v = true->(∃ i t,k = oJ i/\v = Value.int i t)\/(∃ x t,k = oI x/\v = Value.str x t)
 | .inl i,v,h=>by
   obtain ⟨t,e⟩:=Value.isInt_shape (k:=i) (v:=v) h
   exact .inl ⟨i,t,rfl,e⟩
 | .inr x,v,h=>by
   obtain ⟨t,e⟩:=Value.isStrOf_shape (x:=x) (v:=v) h;exact .inr ⟨x,t,rfl,e⟩
theorem Kq (a b:Int):decide ((oJ a:Key) = oJ b) = (a == b):=by
 by_cases e:a = b
 . subst e;simp
 . have h:¬ (oJ a:Key) = oJ b:=fun q=>e (Sum.inl.inj q);rw [decide_eq_false h];exact (beq_eq_false_iff_ne.mpr e).symm
theorem Kn (a b:Str):decide ((oI a:Key) = oI b) = decide (a = b):=by
 by_cases e:a = b
 . subst e;simp
 . have h:¬ (oI a:Key) = oI b:=fun q=>e (Sum.inr.inj q);rw [decide_eq_false h,decide_eq_false e]
theorem Kp (a:Int) (b:Str):decide ((oJ a:Key) = oI b) = false:=decide_eq_false (fun q=>nomatch q)
theorem Ko (a:Str) (b:Int):decide ((oI a:Key) = oJ b) = false:=decide_eq_false (fun q=>nomatch q)
noncomputable def sX (prog:aM) (w:bj):PySem.KeyKind prog w Key where
 is:=HN
 hash:=NI w
 inj:=fun v a b ha hb=>by
  rcases dw ha with ⟨i,t,rfl,rfl⟩ | ⟨x,t,rfl,rfl⟩
  . rcases dw hb with ⟨j,u,rfl,e⟩ | ⟨y,u,rfl,e⟩
    . injection e with e1 _;rw [e1]
    . exact nomatch e
  . rcases dw hb with ⟨j,u,rfl,e⟩ | ⟨y,u,rfl,e⟩
    . exact nomatch e
    . injection e with e1 _;rw [e1]
 byValue:=fun k v h=>by
  rcases dw h with ⟨i,t,rfl,rfl⟩ | ⟨x,t,rfl,rfl⟩<;>rfl
 pyHash:=fun hv h=>by
  rcases dw hv with ⟨i,t,rfl,rfl⟩ | ⟨x,t,rfl,rfl⟩
  . exact wpAny_pyHash_int h
  . exact wpAny_pyHash_str h
 eqBool:=fun hu hv h=>by
  rcases dw hu with ⟨i,t,rfl,rfl⟩ | ⟨x,t,rfl,rfl⟩
  . rcases dw hv with ⟨j,u,rfl,rfl⟩ | ⟨y,u,rfl,rfl⟩
    . rw [Kq] at h;exact wpAny_eqBool_int h
    . rw [Kp] at h;exact SeqAt.EqAt.int_str i t y u _ _ _ _ h
  . rcases dw hv with ⟨j,u,rfl,rfl⟩ | ⟨y,u,rfl,rfl⟩
    . rw [Ko] at h;exact SeqAt.EqAt.str_int x t j u _ _ _ _ h
    . rw [Kn] at h;exact wpAny_eqBool_str h
 «strs»:=fun k x t v h=>by
  rcases dw h with ⟨i,u,rfl,e⟩ | ⟨y,u,rfl,e⟩
  . exact nomatch e
  . injection e with e1 _;subst e1;cases v<;>rfl
end L2
namespace L2
open PySem PySem.Spec PyProof.Rows
set_option genInjectivity true in
inductive V where
 | non | bl (b:Bool) | int (i:Int) | str (x:Str) | byt (b:Array UInt8) | flt (b:UInt64) | ref (a:av) | ty (n:String)
 deriving DecidableEq
noncomputable def RelV:V->af->Prop
 | .non,u=>u = cm
 | .bl b,u=>u = kn b
 | .int i,u=>∃ t,u = Value.int i t
 | .str x,u=>∃ t,u = Value.str x t
 | .byt b,u=>∃ t,u = Value.bytes b t
 | .flt b,u=>∃ t,u = Value.float b t
 | .ref a,u=>u = iK a
 | .ty n,u=>u = Value.type n
abbrev Vals:List V->List af->Prop:=Paired RelV
theorem Vals.length {xs:List V} {us:List af} (r:Vals xs us):xs.length = us.length:=Paired.length r
theorem Vals.get:∀ {xs:List V} {us:List af} {i:Nat} {x:V},Vals xs us->xs[i]? = some x->∃ u,us[i]? = some u/\RelV x u
 | _,_,_,_,.nil,e=>by simp at e
 | _,_,0,_,.cons r _,e=>by simp at e;subst e;exact ⟨_,rfl,r⟩
 | _,_,i+1,x,.cons _ t,e=>by
   obtain ⟨u,h1,h2⟩:=Vals.get (i:=i) (x:=x) t (by simpa using e);exact ⟨u,by simpa using h1,h2⟩
theorem Vals.set {x:V} {u:af} (r:RelV x u):∀ {xs:List V} {us:List af} (i:Nat),Vals xs us->Vals (xs.set i x) (us.set i u)
 | _,_,_,.nil=>.nil
 | _,_,0,.cons _ t=>.cons r t
 | _,_,i+1,.cons q t=>.cons q (Vals.set r i t)
theorem Vals.append:∀ {xs ys:List V} {us ws:List af},Vals xs us->Vals ys ws->Vals (xs++ys) (us++ws)
 | _,_,_,_,.nil,s=>s
 | _,_,_,_,.cons r t,s=>.cons r (Vals.append t s)
theorem Vals.take:∀ {xs:List V} {us:List af} (n:Nat),Vals xs us->Vals (xs.take n) (us.take n)
 | _,_,0,_=>.nil
 | _,_,_+1,.nil=>.nil
 | _,_,n+1,.cons r t=>.cons r (Vals.take n t)
theorem Vals.drop:∀ {xs:List V} {us:List af} (n:Nat),Vals xs us->Vals (xs.drop n) (us.drop n)
 | _,_,0,r=>r
 | _,_,_+1,.nil=>.nil
 | _,_,n+1,.cons _ t=>Vals.drop n t
noncomputable def gX:Option V->Option af->Prop
 | some v,some u=>RelV v u
 | none,none=>True
 | _,_=>False
noncomputable def KV {κ:Type}:List (κ × V)->List (κ × af)->Prop:=Paired fun (p:κ × V) (q:κ × af)=>p.1 = q.1/\RelV p.2 q.2
noncomputable def kV:Key->V
 | .inl i=>.int i
 | .inr x=>.str x
inductive HO where
 | lst (xs:List V)
 | tup (xs:List V)
 | dK (kvs:List (Key × V)) | dT (kvs:List (List Key × V))
 | set (S:Int->Bool) (n:Nat)
 | ins (C dx:av) (fs:List (Str × V))
 | own (x:av)
 | xd (fs:List (Str × V))
 | met (f x:av)
 | rng (lo hi:Int)
 | frz (o:Obj) (u:HO)
 | tbl (ps:Array af)
 | ext (φ:bJ->Prop)
abbrev Hp:=av->Option HO
noncomputable def upd (H:Hp) (a:av) (o:HO):Hp:=fun b=>if b = a then some o else H b
theorem bP {H:Hp} {a:av} {o:HO}:upd H a o a = some o:=by unfold upd;rw [if_pos rfl]
theorem bq {H:Hp} {a b:av} {o:HO} (h:b≠a):upd H a o b = H b:=by unfold upd;rw [if_neg h]
theorem gj {H:Hp} {a b:av} {o:HO} (h:H a = some o) (h':H b = none):a≠b:=by
 intro e;subst e;rw [h] at h';cases h'
section
variable (P:aM) (w:bj)
noncomputable def ff (H:Hp) (h:bJ) (a:av):HO->Prop
 | .lst xs=>xs.length<=sizeLine/\∃ (its:List af) (n:Nat),Vals xs its/\h.get? a = some { cls:=.type "list",data:=.seq its.toArray n }
 | .tup xs=>xs.length<=sizeLine/\∃ its:List af,Vals xs its/\Bb h a its.toArray
 | .dK kvs=>kvs.length<=sizeLine/\(a == sysModules) = false/\∃ vs,KV kvs vs/\h.DictOf (sX P w) a vs
 | .dT kvs=>kvs.length<=sizeLine/\(a == sysModules) = false/\∃ xs:List (List Key × av × af),
    Paired (fun (p:List Key × V) (q:List Key × av × af)=>p.1 = q.1/\H q.2.1 = some (.tup (p.1.map kV))/\RelV p.2 q.2.2) kvs xs /\
    ∃ o es ep,h.get? a = some o/\o.ExactDict/\o.data = .dict es ep/\es.toList = xs.map (entryOfKey (tupleKind (sX P w)))/\(xs.map (·.1)).Nodup
 | .set S n=>h.SetOf (intKind P w) a S n
 | .ins C dx fs=>H dx = some (.own a)/\fs.length<=1000/\dx≠a/\h.get? a = some (PySem.W.instObj C dx) /\
    ∃ mA,h.Ns1 dx mA/\(∀ f,gX (fs.lookup f) (mA f))/\PySem.Within mA (fs.map (·.1))
 | .own _=>∃ o,h.get? a = some o
 | .xd fs=>∃ mA,h.Ns1 a mA/\∀ f,gX (fs.lookup f) (mA f)
 | .rng lo hi=>∃ t u v,h.get? a = some { cls:=.type "range",data:=.fields #[.int lo t,.int hi u,.int 1 v] }
 | .frz o u=>h.get? a = some o/\ff H h a u
 | .tbl ps=>h.get? a = some { cls:=.none,data:=.fields ps }
 | .met f x=>h.get? a = some (PySem.W.methodObj (.ref f) (.ref x))
 | .ext φ=>φ h/\(∃ o,h.get? a = some o)/\∀ h1 h2:bJ,φ h1->(∀ o,h1.get? a = some o->h2.get? a = some o)->φ h2
noncomputable def HOk (H:Hp) (h:bJ):Prop:=∀ a o,H a = some o->ff P w H h a o
end
section
variable {P:aM} {w:bj} {H H':Hp} {h h':bJ} {a:av} {o:HO}
theorem ff.lt (x:ff P w H h a o):a < h.objs.size:=by
 cases o with
 | lst xs=>obtain ⟨_,_,_,_,e⟩:=x;exact aA e
 | tup xs=>obtain ⟨_,_,_,p⟩:=x;exact p.lt
 | dK kvs=>obtain ⟨_,_,_,_,o,_,_,e,_⟩:=x;exact aA e
 | dT kvs=>obtain ⟨_,_,_,_,o,_,_,e,_⟩:=x;exact aA e
 | set S n=>obtain ⟨o,_,_,_,e,_⟩:=x;exact aA e
 | ins C dx fs=>obtain ⟨_,_,_,e,_⟩:=x;exact aA e
 | own y=>obtain ⟨_,e⟩:=x;exact aA e
 | xd fs=>obtain ⟨_,⟨_,_,_,e,_⟩,_⟩:=x;exact aA e
 | rng lo hi=>obtain ⟨_,_,_,e⟩:=x;exact aA e
 | frz ob u=>obtain ⟨e,_⟩:=x;exact aA e
 | tbl ps=>exact aA (show h.get? a = some _ from x)
 | met f y=>exact aA (show h.get? a = some _ from x)
 | ext φ=>obtain ⟨_,⟨_,e⟩,_⟩:=x;exact aA e
theorem Paired.mapP {α β:Type} {F G:α->β->Prop}:∀ {l₁:List α} {l₂:List β},Paired F l₁ l₂->(∀ a b,F a b->G a b)->Paired G l₁ l₂
 | _,_,.nil,_=>.nil
 | _,_,.cons r t,f=>.cons (f _ _ r) (Paired.mapP t f)
theorem ff.stay (x:ff P w H h a o) (k:∀ b u,(b = a\/H b = some (.own a))->h.get? b = some u->h'.get? b = some u)
 (ho:∀ b,H b = some (.own a)->H' b = some (.own a)) (ht:∀ b xs,H b = some (.tup xs)->H' b = some (.tup xs)):ff P w H' h' a o:=by
 induction o with
 | lst xs=>obtain ⟨z,its,n,r,e⟩:=x;exact ⟨z,its,n,r,k _ _ (.inl rfl) e⟩
 | tup xs=>obtain ⟨z,its,r,ob,e,c⟩:=x;exact ⟨z,its,r,ob,k _ _ (.inl rfl) e,c⟩
 | dK kvs=>obtain ⟨z,y,vs,r,ob,es,ep,e,c⟩:=x;exact ⟨z,y,vs,r,ob,es,ep,k _ _ (.inl rfl) e,c⟩
 | dT kvs =>
   obtain ⟨z,y,xs,r,ob,es,ep,e,c⟩:=x
   exact ⟨z,y,xs,Paired.mapP r fun p q z=>⟨z.1,ht _ _ z.2.1,z.2.2⟩,ob,es,ep,k _ _ (.inl rfl) e,c⟩
 | set S n=>obtain ⟨ob,es,ep,t,e,c⟩:=x;exact ⟨ob,es,ep,t,k _ _ (.inl rfl) e,c⟩
 | ins C dx fs =>
   obtain ⟨d,z,ne,e,mA,⟨od,es,ep,e2,c⟩,r⟩:=x
   exact ⟨ho _ d,z,ne,k _ _ (.inl rfl) e,mA,⟨od,es,ep,k _ _ (.inr d) e2,c⟩,r⟩
 | own y=>obtain ⟨ob,e⟩:=x;exact ⟨ob,k _ _ (.inl rfl) e⟩
 | xd fs=>obtain ⟨mA,⟨od,es,ep,e,c⟩,r⟩:=x;exact ⟨mA,⟨od,es,ep,k _ _ (.inl rfl) e,c⟩,r⟩
 | rng lo hi=>obtain ⟨t,u,v,e⟩:=x;exact ⟨t,u,v,k _ _ (.inl rfl) e⟩
 | frz ob u ih=>obtain ⟨e,q⟩:=x;exact ⟨k _ _ (.inl rfl) e,ih q⟩
 | tbl ps =>
   have e:h.get? a = some { cls:=.none,data:=.fields ps }:=x;show h'.get? a = some { cls:=.none,data:=.fields ps }
   exact k a _ (.inl rfl) e
 | met f y =>
   have e:h.get? a = some (PySem.W.methodObj (.ref f) (.ref y)):=x;show h'.get? a = some (PySem.W.methodObj (.ref f) (.ref y))
   exact k a _ (.inl rfl) e
 | ext φ=>obtain ⟨p,⟨o,e⟩,st⟩:=x;exact ⟨st _ _ p fun o q=>k _ _ (.inl rfl) q,⟨o,k _ _ (.inl rfl) e⟩,st⟩
theorem HOk.lt (x:HOk P w H h) (e:H a = some o):a < h.objs.size:=(x a o e).lt
theorem HOk.fresh (x:HOk P w H h) (e:h.objs.size<=a):H a = none:=by
 cases q:H a with
 | none=>rfl
 | some u=>exact absurd (aS (x.lt q) e) (cu _)
theorem HOk.kept (x:HOk P w H h) (k:∀ b u,h.get? b = some u->h'.get? b = some u):HOk P w H h':=fun a o e =>
 (x a o e).stay (fun b u _ q=>k b u q) (fun _ q=>q) fun _ _ q=>q
theorem HOk.laid (x:HOk P w H h) (k:∀ b u,h.get? b = some u->h'.get? b = some u) (hp:h.objs.size<=a) (new:ff P w (upd H a o) h' a o):HOk P w (upd H a o) h':=fun b u e=>by
 have hn:=x.fresh hp;by_cases hb:b = a
 . subst hb;rw [bP] at e;cases e;exact new
 . rw [bq hb] at e;exact (x b u e).stay (fun c v _ q=>k c v q) (fun c q=>by rw [bq (gj q hn)];exact q) fun c xs q=>by rw [bq (gj q hn)];exact q
end
noncomputable def Rd (H:Hp) (a:av) (u:HO):Prop:=H a = some u\/∃ o,H a = some (.frz o u)
theorem Rd.ok {P:aM} {w:bj} {H:Hp} {h:bJ} {a:av} {u:HO} (r:Rd H a u) (x:HOk P w H h):ff P w H h a u:=by
 rcases r with r | ⟨o,r⟩
 . exact x a u r
 . obtain ⟨_,q⟩:=x a _ r;exact q
noncomputable def Mut:Option HO->Prop
 | some (.lst _)=>True
 | some (.dK _)=>True
 | some (.dT _)=>True
 | some (.set _ _)=>True
 | some (.ins _ _ _)=>True
 | some (.ext _)=>True
 | _=>False
section
variable {P:aM} {w:bj} {H:Hp} {h h':bJ} {x e:av} {o':HO}
theorem HOk.write (ok:HOk P w H h) (mu:Mut (H x)) (he:e = x\/H e = some (.own x)) (k:∀ b u,b≠e->h.get? b = some u->h'.get? b = some u) (heo:∃ u,h'.get? e = some u)
 (new:ff P w (upd H x o') h' x o'):HOk P w (upd H x o') h':=fun b u q=>by
 have nown:∀ c y,H c = some (.own y)->c≠x:=fun c y r z=>by subst z;rw [r] at mu;exact mu
 have ntup:∀ c xs,H c = some (.tup xs)->c≠x:=fun c xs r z=>by subst z;rw [r] at mu;exact mu
 by_cases hb:b = x
 . subst hb;rw [bP] at q;cases q;exact new
 . rw [bq hb] at q;by_cases hbe:b = e
   . have q':H b = some (.own x):=by
      rcases he with z | z
      . exact absurd (hbe.trans z) hb
      . rw [hbe];exact z
     rw [q] at q';cases q';obtain ⟨v,hv⟩:=heo;exact ⟨v,by rw [hbe];exact hv⟩
   . refine (ok b u q).stay (fun c v hc r=>k c v ?_ r) (fun c r=>by rw [bq (nown c b r)];exact r) fun c xs r=>by rw [bq (ntup c xs r)];exact r
     rcases hc with rfl | hc
     . exact hbe
     . rintro rfl;rcases he with z | z
       . exact nown c b hc z
       . rw [hc] at z;cases z;exact hb rfl
end
structure Un (fs ex:List av) (H H':Hp) (h h':bJ):Prop where
 keep:∀ b o,h.get? b = some o->H b = none->b∉fs->b∉ex->h'.get? b = some o
 slot:∀ b o,h.get? b = some o->H b = none->b∈fs->b∉ex->∃ sl,h'.get? b = some { o with slots:=sl }
 free:∀ b o,h.get? b = some o->H b = none->b∉ex->H' b = none
 there:∀ b o,h.get? b = some o->b∉ex->∃ o',h'.get? b = some o'
 tups:∀ b xs,H b = some (.tup xs)->H' b = some (.tup xs)
 frzs:∀ b o u,H b = some (.frz o u)->H' b = some (.frz o u)
 tbls:∀ b ps,H b = some (.tbl ps)->∃ more,H' b = some (.tbl (ps++more))
section
variable {fs fs' ex ex':List av} {H H1 H2:Hp} {h h1 h2 h':bJ} {a x e:av} {o:HO}
theorem Un.any (u:Un fs ex H H1 h h1) (q:h.get? b = some ob) (n:H b = none) (hx:b∉ex):∃ sl,h1.get? b = some { ob with slots:=sl }:=by
 by_cases hb:b∈fs
 . exact u.slot b ob q n hb hx
 . exact ⟨ob.slots,u.keep b ob q n hb hx⟩
theorem Un.kept (k:∀ b u,h.get? b = some u->h'.get? b = some u):Un fs ex H H h h' :=
 ⟨fun b ob q _ _ _=>k b ob q,fun b ob q _ _ _=>⟨ob.slots,k b ob q⟩,fun _ _ _ n _=>n,fun b ob q _=>⟨ob,k b ob q⟩,fun _ _ q=>q,fun _ _ _ q=>q,fun _ ps q=>⟨#[],by rw [q];simp⟩⟩
theorem Un.refl:Un fs ex H H h h:=Un.kept fun _ _ q=>q
theorem Un.laid (k:∀ b u,h.get? b = some u->h'.get? b = some u) (hp:h.objs.size<=a) (hn:H a = none):Un fs ex H (upd H a o) h h' where
 keep:=fun b u q _ _ _=>k b u q
 slot:=fun b u q _ _ _=>⟨u.slots,k b u q⟩
 free:=fun b u q n _=>by rw [bq (aJ (aS (aA q) hp))];exact n
 there:=fun b u q _=>⟨u,k b u q⟩
 tups:=fun b xs q=>by rw [bq (gj q hn)];exact q
 frzs:=fun b u xs q=>by rw [bq (gj q hn)];exact q
 tbls:=fun b ps q=>⟨#[],by rw [bq (gj q hn),q];simp⟩
theorem Un.write (mu:Mut (H x)) (he:e = x\/H e = some (.own x)) (k:∀ b u,b≠e->h.get? b = some u->h'.get? b = some u) (heo:∃ u,h'.get? e = some u):Un fs ex H (upd H x o) h h':=by
 have hx:∀ b,H b = none->b≠x:=fun b n z=>by subst z;rw [n] at mu;exact mu
 have hb:∀ b,H b = none->b≠e:=fun b n z=>by
  subst z;rcases he with r | r
  . exact hx b n r
  . rw [n] at r;cases r
 have hm:∀ b u,H b = some u->¬ Mut (some u)->b≠x:=fun b u q nm z=>by subst z;rw [q] at mu;exact nm mu
 refine ⟨fun b u q n _ _=>k b u (hb b n) q,fun b u q n _ _=>⟨u.slots,k b u (hb b n) q⟩,fun b u q n _=>by rw [bq (hx b n)];exact n,fun b u q _=>?_,
  fun b xs q=>by rw [bq (hm b _ q fun z=>z)];exact q,fun b u xs q=>by rw [bq (hm b _ q fun z=>z)];exact q,fun b ps q=>⟨#[],by rw [bq (hm b _ q fun z=>z),q];simp⟩⟩
 by_cases hbe:b = e
 . subst hbe;exact heo
 . exact ⟨u,k b u hbe q⟩
end
noncomputable def trk (h:bJ) (H:Hp):List av:=(bC h.objs.size).filter fun a=>(H a).isSome
noncomputable def qG (h:bJ) (H:Hp):bJ:=PySem.W.hideAll h (trk h H)
theorem Au (h:bJ) (H:Hp):(qG h H).objs.size = h.objs.size:=PySem.W.hideAll_size _ _
theorem DZ (e:h.get? b = some o) (n:H b = none):(qG h H).get? b = some o :=
 PySem.W.hideAll_get _ e fun hm=>by
  have q:(H b).isSome = true:=(qA.mp hm).2;rw [n] at q;simp at q
theorem GO (e:(qG h H).get? b = some o):h.get? b = some o/\H b = none:=by
 have e':h.get? b = some o:=PySem.W.of_hideAll (trk h H) e;refine ⟨e',?_⟩
 cases q:H b with
 | none=>rfl
 | some x =>
   have hm:b∈trk h H:=qA.mpr ⟨lB.mpr (aA e'),by simp [q]⟩;have z:(qG h H).get? b = none:=PySem.W.hideAll_none (trk h H) hm;rw [z] at e;cases e
end L2
namespace L2
open PySem PySem.Spec PyProof.Rows
structure Mod (K:PySem.W.Frag) (mg:Str->Option af) (base:bJ):Prop where
 kin:K.In base
 glob:base.Ns mainGlobals mg
 blt:∃ mb,base.Ns builtinsNs mb/\∀ x:Str,x≠"__name__"->mb x = bootBuiltins x
 nolimit:base.NoLimit
structure Cx where
 prog:aM
 w:bj
 K:PySem.W.Frag
 mg:Str->Option af
 base:bJ
 A:ba
 N:List Str
 s₀:ai
 H₀:Hp
 env:Env
 outer:List Env
 stack:List Env
 ex:List av
 fn:Str->Bool
 calm:Bool
 pn:List (av × Obj)
 xe:af->ai->Prop
noncomputable def frs (l:List Env):List av:=l.filterMap (·.frame)
noncomputable abbrev Cx.fs (X:Cx):List av:=frs X.outer
noncomputable def Vis (sc:dS) (x:Str):Prop:=sc.names.lookup x = some .local\/sc.names.lookup x = some .cell\/sc.names.lookup x = some .free
noncomputable def Loc (sc:dS) (x:Str):Prop:=sc.names.lookup x = some .local\/sc.names.lookup x = some .cell
noncomputable def Look (env:Env) (h:bJ) (m:Str->Option af) (x:Str) (u:af):Prop :=
 (env.kindOf x = some .local/\m x = some u)\/((env.kindOf x = some .cell\/env.kindOf x = some .free)/\∃ c,env.cells.lookup x = some c/\h.IsCell c (some u))
structure Cx.Ok (X:Cx):Prop where
 mod:Mod X.K X.mg X.base
 kind:X.env.scope.kind = .function
 glob:X.env.globals = mainGlobals
 blt:X.env.builtins = builtinsNs
 above:X.s₀.heap.objs.size<=X.env.locals
 inj:∀ x y c,X.env.cells.lookup x = some c->X.env.cells.lookup y = some c->x = y
 has:∀ x,(X.env.kindOf x = some .cell\/X.env.kindOf x = some .free)->∃ c,X.env.cells.lookup x = some c
 cab:∀ x c,X.fn x = true->X.env.cells.lookup x = some c->X.s₀.heap.objs.size<=c
 hd:X.calm = true->X.A.handled = none
 frames:X.A.frames = some X.stack
 stk:X.stack = X.outer\/(X.stack = X.env::X.outer/\X.env.frame = some X.env.locals)
 exf:∀ b∈X.ex,b≠X.env.locals/\∀ x c,X.env.cells.lookup x = some c->c≠b
 bs:∀ b o,X.base.get? b = some o->X.s₀.heap.get? b = some o/\X.H₀ b = none
 bsz:X.base.objs.size<=X.s₀.heap.objs.size
 noex:∀ b o,X.base.get? b = some o->b∉X.ex
 exfs:∀ b∈X.ex,b∉X.fs
 funs:X.s₀.heap.FunFrames X.base X.outer
 frf:∀ b∈X.fs,X.H₀ b = none
structure Inv (X:Cx) (pins:List (av × Obj)) (σ:List (Option V)) (H:Hp) (s:ai):Prop where
 ok:X.Ok
 os:s.os = X.s₀.os
 bare:lX s.gens
 base:Un X.fs X.ex X.H₀ H X.s₀.heap s.heap
 loc:∃ m,s.heap.Ns X.env.locals m/\∀ (i:Nat) (x:Str) (v:V),X.N[i]? = some x->σ[i]? = some (some v)->Vis X.env.scope x->∃ u,RelV v u/\Look X.env s.heap m x u
 cell:∀ x c,X.env.cells.lookup x = some c->∃ v,s.heap.IsCell c v
 free:H X.env.locals = none
 freeC:∀ x c,X.env.cells.lookup x = some c->H c = none
 pin:∀ p∈X.pn++pins,s.heap.get? p.1 = some p.2/\H p.1 = none/\p.1≠X.env.locals/\p.1∉X.fs/\∀ v,p.2.data≠.cell v
 hok:HOk X.prog X.w H s.heap
 len:σ.length = X.N.length
section
variable {X:Cx} {pins:List (av × Obj)} {σ:List (Option V)} {H H':Hp} {s:ai} {h':bJ}
theorem Cx.Ok.nofr (ok:X.Ok) (e:X.base.get? b = some o):b∉X.fs:=fun hb=>by
 have:=(ok.funs.mem hb).1;rw [e] at this;cases this
theorem Inv.bs (I:Inv X pins σ H s):∀ b o,X.base.get? b = some o->s.heap.get? b = some o/\H b = none:=fun b o e =>
 ⟨I.base.keep b o (I.ok.bs b o e).1 (I.ok.bs b o e).2 (I.ok.nofr e) (I.ok.noex b o e),I.base.free b o (I.ok.bs b o e).1 (I.ok.bs b o e).2 (I.ok.noex b o e)⟩
theorem Inv.bk (I:Inv X pins σ H s):∀ b o,X.base.get? b = some o->s.heap.get? b = some o:=fun b o e=>(I.bs b o e).1
theorem Inv.mod (I:Inv X pins σ H s):Mod X.K X.mg X.base:=I.ok.mod
theorem Inv.kIn (I:Inv X pins σ H s):X.K.In s.heap:=I.ok.mod.kin.keeps I.bk
theorem Inv.lt (I:Inv X pins σ H s):X.env.locals < s.heap.objs.size:=let ⟨_,hn,_⟩:=I.loc;hn.lt
theorem Inv.sz (I:Inv X pins σ H s):X.s₀.heap.objs.size<=s.heap.objs.size:=bc I.ok.above (iR I.lt)
theorem Inv.nofs (I:Inv X pins σ H s) (h:s.heap.objs.size<=a):a∉X.fs:=fun hb=>by
 obtain ⟨_,o,ho,_⟩:=I.ok.funs.mem hb;exact absurd (aS (aA ho) (bc I.sz h)) (cu _)
theorem Inv.cne (I:Inv X pins σ H s):∀ x c,X.env.cells.lookup x = some c->c≠X.env.locals:=fun x c e z=>by
 obtain ⟨v,o,ho,hd⟩:=I.cell x c e;obtain ⟨m,⟨o',es,ep,ho',hd',_⟩,_⟩:=I.loc;rw [z,ho'] at ho;cases ho;rw [hd'] at hd;cases hd
theorem Inv.funs (I:Inv X pins σ H s):s.heap.FunFrames X.base X.outer:=by
 have all:∀ (l:List Env),(∀ b∈frs l,b∈X.fs)->X.s₀.heap.FunFrames X.base l->s.heap.FunFrames X.base l:=by
  intro l
  induction l with
  | nil=>intro _ _;trivial
  | cons env r ih =>
    intro hs hl;obtain ⟨hk,⟨L,o,hf,hn,ho,hd⟩,hr⟩:=hl;have hL:L∈X.fs:=hs L (by unfold frs;rw [cn,hf];exact ay);obtain ⟨sl,e⟩:=I.base.slot L o ho (I.ok.frf L hL) hL fun z=>I.ok.exfs L z hL;exact ⟨hk,⟨L,_,hf,hn,e,hd⟩,ih (fun b hb=>hs b (by unfold frs;rw [cn,hf];exact au _ hb)) hr⟩
 exact all X.outer (fun _ hb=>hb) I.ok.funs
theorem Inv.stack (I:Inv X pins σ H s):s.heap.FunFrames X.base X.stack:=by
 rcases I.ok.stk with e | ⟨e,hf⟩
 . rw [e];exact I.funs
 . rw [e];obtain ⟨m,hn,_⟩:=I.loc;refine .cons (by rw [I.ok.kind];decide) hf hn ?_ I.funs;exact zi (bc I.ok.bsz I.ok.above)
theorem Inv.stkSub (I:Inv X pins σ H s):∀ b∈frs X.stack,b∈X.env.locals::X.fs:=fun b hb=>by
 rcases I.ok.stk with e | ⟨e,hf⟩
 . rw [e] at hb;exact au _ hb
 . rw [e] at hb;unfold frs at hb;rw [cn,hf] at hb;exact hb
theorem Inv.stkFree (I:Inv X pins σ H s):∀ b∈frs X.stack,H b = none:=fun b hb=>by
 rcases aC.mp (I.stkSub b hb) with e | hb
 . rw [e];exact I.free
 . obtain ⟨_,o,ho,_⟩:=I.ok.funs.mem hb;exact I.base.free b o ho (I.ok.frf b hb) fun z=>I.ok.exfs b z hb
theorem Inv.step {g':Array HE} {t':Nat} {d':Drawn} {ch:List av} (I:Inv X pins σ H s)
 (hch:∀ b∈ch,(b∈X.ex\/X.s₀.heap.objs.size<=b)/\b≠X.env.locals/\(∀ x c,X.env.cells.lookup x = some c->c≠b)/\∀ p∈X.pn++pins,p.1≠b)
 (keep:∀ b o,b≠X.env.locals->b∉X.fs->b∉ch->s.heap.get? b = some o->H b = none->h'.get? b = some o)
 (slot:∀ b o,b≠X.env.locals->b∈X.fs->b∉ch->s.heap.get? b = some o->H b = none->∃ sl,h'.get? b = some { o with slots:=sl }) (free:∀ b o,b∉ch->s.heap.get? b = some o->H b = none->H' b = none)
 (there:∀ b o,b∉ch->s.heap.get? b = some o->∃ o',h'.get? b = some o')
 (tups:∀ b xs,H b = some (.tup xs)->H' b = some (.tup xs)) (frzs:∀ b o u,H b = some (.frz o u)->H' b = some (.frz o u)) (tbls:∀ b ps,H b = some (.tbl ps)->∃ more,H' b = some (.tbl (ps++more)))
 (ns:∀ m,s.heap.Ns X.env.locals m->h'.Ns X.env.locals m) (hok:HOk X.prog X.w H' h') (hg:lX g') :
 Inv X pins σ H' { s with heap:=h',gens:=g',drawn:=d',toks:=t' }:=by
 have neL:∀ b o,X.s₀.heap.get? b = some o->b≠X.env.locals:=fun b o e=>aJ (aS (aA e) I.ok.above)
 have neC:∀ b o,X.s₀.heap.get? b = some o->b∉X.ex->b∉ch:=fun b o e hx hb=>by
  rcases (hch b hb).1 with z | z
  . exact hx z
  . exact absurd (aS (aA e) z) (cu _)
 have cellK:∀ x c,X.env.cells.lookup x = some c->∀ v,s.heap.IsCell c v->h'.IsCell c v:=fun x c e v zz=>by
  obtain ⟨o,ho,hd⟩:=zz;have nch:c∉ch:=fun z=>(hch c z).2.2.1 x c e rfl;by_cases hc:c∈X.fs
  . obtain ⟨sl,q⟩:=slot c o (I.cne x c e) hc nch ho (I.freeC x c e);exact ⟨_,q,hd⟩
  . exact ⟨o,keep c o (I.cne x c e) hc nch ho (I.freeC x c e),hd⟩
 refine ⟨I.ok,I.os,hg,⟨fun b o e n hb hx=>?_,fun b o e n hb hx=>?_,fun b o e n hx=>?_,fun b o e hx=>?_,fun b xs e=>tups b xs (I.base.tups b xs e),fun b o xs e=>frzs b o xs (I.base.frzs b o xs e),fun b ps e=>?_⟩,?_,fun x c e=>?_,?_,fun x c e=>?_,fun p hp=>?_,hok,I.len⟩
 . exact keep b o (neL b o e) hb (neC b o e hx) (I.base.keep b o e n hb hx) (I.base.free b o e n hx)
 . obtain ⟨sl,e1⟩:=I.base.slot b o e n hb hx;obtain ⟨sl',e2⟩:=slot b _ (neL b o e) hb (neC b o e hx) e1 (I.base.free b o e n hx);exact ⟨sl',e2⟩
 . obtain ⟨o',e1⟩:=I.base.there b o e hx;exact free b o' (neC b o e hx) e1 (I.base.free b o e n hx)
 . obtain ⟨o',e1⟩:=I.base.there b o e hx;exact there b o' (neC b o e hx) e1
 . obtain ⟨m1,e1⟩:=I.base.tbls b ps e;obtain ⟨m2,e2⟩:=tbls b _ e1;exact ⟨m1++m2,by rw [e2,Array.append_assoc]⟩
 . obtain ⟨m,hn,hl⟩:=I.loc;refine ⟨m,ns m hn,fun i x v e1 e2 e3=>?_⟩;obtain ⟨u,r,l⟩:=hl i x v e1 e2 e3;refine ⟨u,r,?_⟩;rcases l with l | ⟨k,c,e,z⟩
   . exact .inl l
   . exact .inr ⟨k,c,e,cellK x c e _ z⟩
 . obtain ⟨v,z⟩:=I.cell x c e;exact ⟨v,cellK x c e v z⟩
 . obtain ⟨m,⟨o,_,_,ho,_⟩,_⟩:=I.loc;exact free _ o (fun z=>(hch _ z).2.1 rfl) ho I.free
 . obtain ⟨v,o,ho,hd⟩:=I.cell x c e;exact free c o (fun z=>(hch c z).2.2.1 x c e rfl) ho (I.freeC x c e)
 . obtain ⟨e,n,ne,nf,d⟩:=I.pin p hp;have nch:p.1∉ch:=fun z=>(hch p.1 z).2.2.2 p hp rfl;exact ⟨keep p.1 p.2 ne nf nch e n,free p.1 p.2 nch e n,ne,nf,d⟩
theorem Inv.un {t':Nat} (I:Inv X pins σ H s) (u:Un X.fs [] H H' s.heap h') (hok:HOk X.prog X.w H' h'):Inv X pins σ H' { s with heap:=h',toks:=t' }:=by
 obtain ⟨m,⟨o,es,ep,ho,r⟩,_⟩:=id I.loc;obtain ⟨sl,hL⟩:=u.any ho I.free (by simp)
 exact I.step (g':=s.gens) (d':=s.drawn) (ch:=[]) (fun _ z=>nomatch z) (fun b o _ hb _ e n=>u.keep b o e n hb (by simp)) (fun b o _ hb _ e n=>u.slot b o e n hb (by simp)) (fun b o _ e n=>u.free b o e n (by simp)) (fun b o _ e=>u.there b o e (by simp)) u.tups u.frzs u.tbls (fun m' hm=>by
  obtain ⟨o',es',ep',ho',r'⟩:=hm;rw [ho] at ho';cases ho';exact ⟨_,es',ep',hL,r'⟩) hok I.bare
theorem Inv.call {g':Array HE} {t':Nat} {d':Drawn} {ch:List av} (I:Inv X pins σ H s) (u:Un (frs X.stack) ch H H' s.heap h') (hok:HOk X.prog X.w H' h') (hg:lX g')
 (hch:∀ b∈ch,(b∈X.ex\/X.s₀.heap.objs.size<=b)/\b≠X.env.locals/\(∀ x c,X.env.cells.lookup x = some c->c≠b)/\∀ p∈X.pn++pins,p.1≠b) :
 Inv X pins σ H' { s with heap:=h',gens:=g',drawn:=d',toks:=t' }:=by
 obtain ⟨m,⟨o,es,ep,ho,r⟩,_⟩:=id I.loc;obtain ⟨sl,hL⟩:=u.any ho I.free fun z=>(hch _ z).2.1 rfl
 exact I.step (ch:=ch) hch (fun b o hL hb hc e n=>u.keep b o e n (fun z=>(aC.mp (I.stkSub b z)).elim hL hb) hc) (fun b o _ _ hc e n=>u.any e n hc) (fun b o hc e n=>u.free b o e n hc) (fun b o hc e=>u.there b o e hc) u.tups u.frzs u.tbls (fun m' hm=>by
  obtain ⟨o',es',ep',ho',r'⟩:=hm;rw [ho] at ho';cases ho';exact ⟨_,es',ep',hL,r'⟩) hok hg
theorem Inv.turned {t':Nat} {it:av} (I:Inv X pins σ H s) (k:∀ b o,b≠it->s.heap.get? b = some o->h'.get? b = some o) (hn:H it = none) (hL:it≠X.env.locals)
 (h1:it∈X.ex\/X.s₀.heap.objs.size<=it) (h2:∀ x c,X.env.cells.lookup x = some c->c≠it) (h3:∀ p∈X.pn++pins,p.1≠it):Inv X pins σ H { s with heap:=h',toks:=t' }:=by
 have nit:∀ b u,H b = some u->b≠it:=fun b u e z=>by rw [z,hn] at e;cases e
 refine I.step (g':=s.gens) (d':=s.drawn) (ch:=[it]) (fun b hb=>?_) (fun b o _ _ hc e _=>k b o (fun z=>hc (by simp [z])) e) (fun b o _ _ hc e _=>⟨o.slots,k b o (fun z=>hc (by simp [z])) e⟩) (fun _ _ _ _ n=>n)
  (fun b o hc e=>⟨o,k b o (fun z=>hc (by simp [z])) e⟩) (fun _ _ e=>e) (fun _ _ _ e=>e) (fun b ps e=>⟨#[],by rw [e];simp⟩) (fun m hm=>?_) (fun b u e=>?_) I.bare
 . have e:b = it:=by simpa using hb
   subst e;exact ⟨h1,hL,h2,h3⟩
 . obtain ⟨o,es,ep,ho,r⟩:=hm;exact ⟨o,es,ep,k _ o (Ne.symm hL) ho,r⟩
 . refine (I.hok b u e).stay (fun c v hc q=>k c v ?_ q) (fun _ q=>q) fun _ _ q=>q;rcases hc with z | z
   . rw [z];exact nit b u e
   . exact nit c _ z
theorem Inv.tok (I:Inv X pins σ H s) (t:Nat):Inv X pins σ H { s with toks:=t }:=I.un (h':=s.heap) (t':=t) Un.refl I.hok
theorem Inv.kept {t':Nat} (I:Inv X pins σ H s) (k:∀ b u,s.heap.get? b = some u->h'.get? b = some u):Inv X pins σ H { s with heap:=h',toks:=t' }:=I.un (Un.kept k) (I.hok.kept k)
theorem Inv.laid {a:av} {o:HO} {t':Nat} (I:Inv X pins σ H s) (k:∀ b u,s.heap.get? b = some u->h'.get? b = some u) (hp:s.heap.objs.size<=a) (new:ff X.prog X.w (upd H a o) h' a o) :
 Inv X pins σ (upd H a o) { s with heap:=h',toks:=t' }:=I.un (Un.laid k hp (I.hok.fresh hp)) (I.hok.laid k hp new)
theorem Inv.write (I:Inv X pins σ H s) (mu:Mut (H x)) (he:e = x\/H e = some (.own x)) (k:∀ b u,b≠e->s.heap.get? b = some u->h'.get? b = some u) (heo:∃ u,h'.get? e = some u)
 (new:ff X.prog X.w (upd H x o) h' x o):Inv X pins σ (upd H x o) { s with heap:=h',toks:=t' }:=I.un (Un.write mu he k heo) (I.hok.write mu he k heo new)
theorem Inv.pins_of (I:Inv X pins σ H s) (h:∀ p∈pins',s.heap.get? p.1 = some p.2/\H p.1 = none/\p.1≠X.env.locals/\p.1∉X.fs/\∀ v,p.2.data≠.cell v):Inv X pins' σ H s :=
 ⟨I.ok,I.os,I.bare,I.base,I.loc,I.cell,I.free,I.freeC,fun p hp=>(aP.mp hp).elim (fun z=>I.pin p (cV _ z)) (h p),I.hok,I.len⟩
theorem vc {N:List Str} (hN:N.Nodup) {i j:Nat} {x:Str} (a:N[i]? = some x) (b:N[j]? = some x):i = j:=by
 obtain ⟨h1,e1⟩:=aH.mp a;obtain ⟨h2,e2⟩:=aH.mp b;exact (Fc hN).mp (e1.trans e2.symm)
theorem zN {M:Model} {A:ba} {E:af->ai->Prop} {i:Nat} {x:Str} {v:V} {u:af} {Q:Unit->ai->Prop} (I:Inv X pins σ H s) (hN:X.N.Nodup) (hi:X.N[i]? = some x) (hx:Loc X.env.scope x) (r:RelV v u)
 (h:∀ s',Inv X pins (σ.set i (some v)) H s'->(∃ a,fI a s.heap s'.heap/\(a = X.env.locals\/X.env.cells.lookup x = some a))->Q () s') (hf:X.fn x = true\/X.env.scope.names.lookup x = some .local:=by first | exact .inl rfl | exact .inr rfl | assumption):wpAny M A (storeName X.env x u) Q E s:=by
 obtain ⟨m,hn,hl⟩:=id I.loc;have hcls:(X.env.scope.kind == .class || (X.env.scope.kind == .module && X.env.locals != X.env.globals)) = false:=by rw [I.ok.kind];rfl
 have hiσ:i < σ.length:=by rw [I.len];exact (aH.mp hi).1
 have cne:=I.cne
 have tracked:∀ {a:av} {h':bJ},(∃ o,s.heap.get? a = some o/\H a = none)->fI a s.heap h'->HOk X.prog X.w H h':=fun {a h'} ha hs b ob e=>by
  obtain ⟨_,_,hfree⟩:=ha;refine (I.hok b ob e).stay (fun c w' hc q=>(hs.2 c ?_).trans q) (fun _ q=>q) fun _ _ q=>q;rintro rfl;rcases hc with rfl | hc
  . rw [hfree] at e;cases e
  . rw [hfree] at hc;cases hc
 rcases hx with hk | hk
 . refine wpAny_storeName_local hk hn (fun h' hn' hs=>?_) hcls;obtain ⟨oL,_,_,hoL,_⟩:=id hn;refine h _ ⟨I.ok,I.os,I.bare,⟨fun b o e n hb hx=>?_,fun b o e n hb hx=>?_,I.base.free,fun b o e hx=>?_,I.base.tups,I.base.frzs,I.base.tbls⟩,⟨_,hn',fun j y v' e1 e2 e3=>?_⟩,fun y c e=>?_,I.free,I.freeC,fun p hp=>?_,tracked ⟨oL,hoL,I.free⟩ hs,by simpa using I.len⟩ ⟨_,hs,.inl rfl⟩
   . exact (hs.2 b (aJ (aS (aA e) I.ok.above))).trans (I.base.keep b o e n hb hx)
   . obtain ⟨sl,e1⟩:=I.base.slot b o e n hb hx;exact ⟨sl,(hs.2 b (aJ (aS (aA e) I.ok.above))).trans e1⟩
   . obtain ⟨o',e1⟩:=I.base.there b o e hx;exact ⟨o',(hs.2 b (aJ (aS (aA e) I.ok.above))).trans e1⟩
   . by_cases hj:j = i
     . subst hj;rw [hi] at e1;cases e1;rw [cL hiσ] at e2;cases e2;exact ⟨u,r,.inl ⟨hk,by simp⟩⟩
     . rw [bF (Ne.symm hj)] at e2;obtain ⟨u',r',q⟩:=hl j y v' e1 e2 e3;refine ⟨u',r',?_⟩;rcases q with ⟨k,e⟩ | ⟨k,c,e,z⟩
       . refine .inl ⟨k,?_⟩;have:y≠x:=fun e=>hj (vc hN e1 (e▸hi));simp [this,e]
       . exact .inr ⟨k,c,e,z.sameBut hs (cne y c e)⟩
   . obtain ⟨w',z⟩:=I.cell y c e;exact ⟨w',z.sameBut hs (cne y c e)⟩
   . obtain ⟨e,n,ne,nf,d⟩:=I.pin p hp;exact ⟨(hs.2 p.1 ne).trans e,n,ne,nf,d⟩
 . have hfn:X.fn x = true:=by
    rcases hf with z | z
    . exact z
    . rw [z] at hk;cases hk
   obtain ⟨c,hc⟩:=I.ok.has x (.inl hk);obtain ⟨w',z⟩:=I.cell x c hc;refine wpAny_storeName_cell I.ok.kind hk hc z (fun h' hc' hs=>?_);obtain ⟨oc,hoc,hocd⟩:=id z;refine h { s with heap:=h' } ⟨I.ok,I.os,I.bare,⟨fun b o e n hb hx=>?_,fun b o e n hb hx=>?_,I.base.free,fun b o e hx=>?_,I.base.tups,I.base.frzs,I.base.tbls⟩,⟨m,hn.sameBut hs (Ne.symm (cne x c hc)),fun j y v' e1 e2 e3=>?_⟩,fun y c' e=>?_,I.free,I.freeC,fun p hp=>?_,tracked ⟨oc,hoc,I.freeC x c hc⟩ hs,by simpa using I.len⟩ ⟨c,hs,.inr hc⟩
   . exact (hs.2 b (aJ (aS (aA e) (I.ok.cab x c hfn hc)))).trans (I.base.keep b o e n hb hx)
   . obtain ⟨sl,e1⟩:=I.base.slot b o e n hb hx;exact ⟨sl,(hs.2 b (aJ (aS (aA e) (I.ok.cab x c hfn hc)))).trans e1⟩
   . obtain ⟨o',e1⟩:=I.base.there b o e hx;exact ⟨o',(hs.2 b (aJ (aS (aA e) (I.ok.cab x c hfn hc)))).trans e1⟩
   . by_cases hj:j = i
     . subst hj;rw [hi] at e1;cases e1;rw [cL hiσ] at e2;cases e2;exact ⟨u,r,.inr ⟨.inl hk,c,hc,hc'⟩⟩
     . rw [bF (Ne.symm hj)] at e2;obtain ⟨u',r',q⟩:=hl j y v' e1 e2 e3;refine ⟨u',r',?_⟩;rcases q with q | ⟨k,c',e,z'⟩
       . exact .inl q
       . refine .inr ⟨k,c',e,z'.sameBut hs ?_⟩;rintro rfl;exact hj (vc hN e1 (I.ok.inj _ _ _ e hc▸hi))
   . by_cases hcc:c' = c
     . subst hcc;exact ⟨_,hc'⟩
     . obtain ⟨w2,z2⟩:=I.cell y c' e;exact ⟨w2,z2.sameBut hs hcc⟩
   . obtain ⟨e,n,ne,nf,d⟩:=I.pin p hp;refine ⟨(hs.2 p.1 ?_).trans e,n,ne,nf,d⟩;intro q;rw [q,hoc] at e;have q':oc = p.2:=bt e;exact d w' (by rw [<- q'];exact hocd)
theorem ku (I:Inv X pins σ H s) (hN:X.N.Nodup) (hi:X.N[i]? = some x) (hx:Loc X.env.scope x) (r:RelV v u)
 (h:∀ s',Inv X pins (σ.set i (some v)) H s'->Q () s') (hf:X.fn x = true\/X.env.scope.names.lookup x = some .local:=by first | exact .inl rfl | exact .inr rfl | assumption):wpAny M A (storeName X.env x u) Q E s :=
 zN I hN hi hx r (fun s' I' _=>h s' I') hf
theorem Inv.call' (I:Inv X pins σ H s) (ho:s'.os = s.os) (u:Un (frs X.stack) ch H H' s.heap s'.heap) (hok:HOk X.prog X.w H' s'.heap) (hg:lX s'.gens)
 (hch:∀ b∈ch,(b∈X.ex\/X.s₀.heap.objs.size<=b)/\b≠X.env.locals/\(∀ x c,X.env.cells.lookup x = some c->c≠b)/\∀ p∈X.pn++pins,p.1≠b):Inv X pins σ H' s':=by
 obtain ⟨h',g',d',t',o'⟩:=s';have e:o' = s.os:=ho;subst e;exact I.call (g':=g') (t':=t') (d':=d') u hok hg hch
end
abbrev XK:=af->Option av->Hp->Prop
abbrev St:=List (Option V)
abbrev VK:=V->Hp->Prop
abbrev TE:=St->Hp->VK->Prop
abbrev TT:=St->Hp->(Bool->Hp->Prop)->Prop
abbrev TA:=St->Hp->(List V->Hp->Prop)->Prop
structure Ends where
 nx:St->Hp->Prop
 rt:VK
 bk:St->Hp->Prop:=fun _ _=>False
 ct:St->Hp->Prop:=fun _ _=>False
abbrev TS:=Ends->St->Hp->Prop
noncomputable def EP (X:Cx) (pins:List (av × Obj)) (σ:St) (Q:VK) (u:af) (s':ai):Prop:=∃ v H',Inv X pins σ H' s'/\RelV v u/\Q v H'
noncomputable def TP (X:Cx) (pins:List (av × Obj)) (σ:St) (Q:Bool->Hp->Prop) (b:Bool) (s':ai):Prop:=∃ H',Inv X pins σ H' s'/\Q b H'
noncomputable def AP (X:Cx) (pins:List (av × Obj)) (σ:St) (Q:List V->Hp->Prop) (us:List af) (s':ai):Prop:=∃ vs H',Inv X pins σ H' s'/\Vals vs us/\Q vs H'
noncomputable def SP (X:Cx) (pins:List (av × Obj)) (D:Ends) (f:Flow) (s':ai):Prop :=
 match f with
 | .next=>∃ σ' H',Inv X pins σ' H' s'/\D.nx σ' H'
 | .brk=>∃ σ' H',Inv X pins σ' H' s'/\D.bk σ' H'
 | .cont=>∃ σ' H',Inv X pins σ' H' s'/\D.ct σ' H'
 | .ret u=>∃ v σ' H',Inv X pins σ' H' s'/\RelV v u/\D.rt v H'
noncomputable def PE (X:Cx) (e:aE) (t:TE):Prop :=
 ∀ (pins:List (av × Obj)) (s:ai) (σ:St) (H:Hp) (Q:VK),Inv X pins σ H s->t σ H Q->wpAny (model X.prog X.w) X.A (eval e X.env) (EP X pins σ Q) X.xe s
noncomputable def PT (X:Cx) (e:aE) (t:TT):Prop :=
 ∀ (pins:List (av × Obj)) (s:ai) (σ:St) (H:Hp) (Q:Bool->Hp->Prop),Inv X pins σ H s->t σ H Q->wpAny (model X.prog X.w) X.A (isTrue e X.env (eval e X.env)) (TP X pins σ Q) X.xe s
noncomputable def PW (X:Cx) (e:aE) (t:TT):Prop :=
 ∀ (whole:Sem af) (pins:List (av × Obj)) (s:ai) (σ:St) (H:Hp) (Q:Bool->Hp->Prop),Inv X pins σ H s->t σ H Q->wpAny (model X.prog X.w) X.A (isTrue e X.env whole) (TP X pins σ Q) X.xe s
theorem PW.pt {X:Cx} {e:aE} {t:TT} (h:PW X e t):PT X e t:=h _
noncomputable def PA (X:Cx) (es:List aE) (t:TA):Prop :=
 ∀ (pos:Pos) (pins:List (av × Obj)) (s:ai) (σ:St) (H:Hp) (Q:List V->Hp->Prop),Inv X pins σ H s->t σ H Q->wpAny (model X.prog X.w) X.A (spliced (backTo pos (starEach es X.env))) (AP X pins σ Q) X.xe s
noncomputable def PS (X:Cx) (st:cY) (t:TS):Prop :=
 ∀ (pins:List (av × Obj)) (s:ai) (σ:St) (H:Hp) (D:Ends),Inv X pins σ H s->t D σ H->wpAny (model X.prog X.w) X.A (exec st X.env) (SP X pins D) X.xe s
noncomputable def PSs (X:Cx) (st:List cY) (t:TS):Prop :=
 ∀ (pins:List (av × Obj)) (s:ai) (σ:St) (H:Hp) (D:Ends),Inv X pins σ H s->t D σ H->wpAny (model X.prog X.w) X.A (execs st X.env) (SP X pins D) X.xe s
theorem thn {α:Type} {t:Sem α} {Q Q':α->ai->Prop} {M:Model} {A:ba} {E:af->ai->Prop} {s:ai} (h:wpAny M A t Q E s) (hQ:∀ a s,Q a s->Q' a s):wpAny M A t Q' E s:=iJ h hQ fun _ _ x=>x
end L2
namespace L2
open PySem PySem.Spec PyProof.Rows
section
variable {X:Cx}
noncomputable def IQ (i:Nat):TE:=fun σ H Q=>∃ v,σ[i]? = some (some v)/\Q v H
noncomputable def tC (v:V):TE:=fun _ H Q=>Q v H
theorem jK (hN:X.N[i]? = some x) (hv:Vis X.env.scope x) (hd:(x == ("__debug__":Str)) = false:=by decide) (hcd:(x == ("__classdict__":Str)) = false:=by decide):PE X (.Name x pos) (IQ i):=by
 intro pins s σ H Q I h;obtain ⟨v,e,h⟩:=h;obtain ⟨m,hn,hl⟩:=I.loc;obtain ⟨u,r,l⟩:=hl i x v hN e hv;have fin:EP X pins σ Q u s:=⟨v,H,I,r,h⟩;rcases l with ⟨hk,hm⟩ | ⟨hk,c,hc,hcell⟩
 . exact Lf (wpAny_loadName_local I.ok.kind hk hn hm fin) hd
 . rcases hk with hk | hk
   . exact Lf (wpAny_loadName_cell I.ok.kind hk hc hcell fin) hd
   . exact Lf (wpAny_loadName_free I.ok.kind hk hc hcell fin hcd) hd
theorem JG:PE X (.Constant (.int i) j pos) (tC (.int i)):=fun _ _ _ H _ I h=>wpAny_Constant_int ⟨.int i,H,I.tok _,⟨_,rfl⟩,h⟩
theorem Ml:PE X (.Constant (.bool b) j pos) (tC (.bl b)):=fun _ _ _ H _ I h=>Constant_bool ⟨.bl b,H,I,rfl,h⟩
theorem JF:PE X (.Constant .none j pos) (tC .non):=fun _ _ _ H _ I h=>Constant_none ⟨.non,H,I,rfl,h⟩
theorem JC:PE X (.Constant (.str x) j pos) (tC (.str x)):=fun _ _ _ H _ I h=>Calls.Constant_str ⟨.str x,H,I.tok _,⟨_,rfl⟩,h⟩
noncomputable def Gl (X:Cx) (x:Str):Prop:=X.env.kindOf x = some .globalImplicit
theorem tu (I:Inv X pins σ H s) (hg:Gl X x) (hm:X.mg x = some u) (h:Q u s)
 (hd:(x == ("__debug__":Str)) = false:=by decide):wpAny (model X.prog X.w) X.A (eval (.Name x pos) X.env) Q E s :=
 qP I.ok.kind hg (Calls.loadGlobal_global (by rw [I.ok.glob];exact I.mod.glob.keeps I.bk) hm h) hd
theorem qe {E:af->ai->Prop} {pins:List (av × Obj)} {s:ai} {σ:St} {H:Hp} {x:Str} {u:af} {pos:Pos} {Q:af->ai->Prop} (I:Inv X pins σ H s) (hg:Gl X x) (hm:X.mg x = none) (hv:bootBuiltins x = some u) (h:Q u s)
 (hn:x≠"__name__":=by decide) (hd:(x == ("__debug__":Str)) = false:=by decide):wpAny (model X.prog X.w) X.A (eval (.Name x pos) X.env) Q E s:=by
 obtain ⟨mb,h1,h2⟩:=I.mod.blt;exact qP I.ok.kind hg (Calls.loadGlobal_builtin (by rw [I.ok.glob];exact I.mod.glob.keeps I.bk) hm (by rw [I.ok.blt];exact h1.keeps I.bk) ((h2 x hn).trans hv) h) hd
theorem Gw (hg:Gl X x) (hm:X.mg x = some u) (r:RelV v u) (hd:(x == ("__debug__":Str)) = false:=by decide):PE X (.Name x pos) (tC v) :=
 fun _ _ _ H _ I h=>tu I hg hm ⟨v,H,I,r,h⟩ hd
theorem Gy (hg:Gl X x) (hm:X.mg x = none) (hv:bootBuiltins x = some u) (r:RelV v u) (hn:x≠"__name__":=by decide) (hd:(x == ("__debug__":Str)) = false:=by decide):PE X (.Name x pos) (tC v) :=
 fun _ _ _ H _ I h=>qe I hg hm hv ⟨v,H,I,r,h⟩ hn hd
variable {a b:aE} {ta tb:TE} {pos:Pos}
variable {tA tB':TT} {rest:List aE}
noncomputable def Np (t u:TT):TT:=fun σ H Q=>t σ H fun c H1=>if c = true then u σ H1 Q else Q false H1
noncomputable def tOr (t u:TT):TT:=fun σ H Q=>t σ H fun c H1=>if c = true then Q true H1 else u σ H1 Q
noncomputable def Nj (t:TT):TT:=fun σ H Q=>t σ H fun c H1=>Q (!c) H1
theorem Gm (ha:PT X a tA):PW X (.BoolOp .And [a] pos) tA:=by
 intro wh pins s σ H Q I h;refine isTrue_and (thn (ha pins s σ H Q I h) fun c s1 e=>?_)
 cases c with
 | true=>exact isTrue_and_nil e
 | false=>exact e
theorem Jp (ha:PT X a tA):PW X (.BoolOp .Or [a] pos) tA:=by
 intro wh pins s σ H Q I h;refine isTrue_or (thn (ha pins s σ H Q I h) fun c s1 e=>?_)
 cases c with
 | false=>exact isTrue_or_nil e
 | true=>exact e
theorem Jq (ha:PT X a tA) (hb:PW X (.BoolOp .And (b::rest) pos) tB'):PW X (.BoolOp .And (a::b::rest) pos) (Np tA tB'):=by
 intro wh pins s σ H Q I h;refine isTrue_and (thn (ha pins s σ H _ I h) fun c s1 ⟨H1,I1,q1⟩=>?_)
 cases c with
 | true=>exact hb wh pins s1 σ H1 Q I1 q1
 | false=>exact ⟨H1,I1,q1⟩
theorem Mb (ha:PT X a tA) (hb:PW X (.BoolOp .Or (b::rest) pos) tB'):PW X (.BoolOp .Or (a::b::rest) pos) (tOr tA tB'):=by
 intro wh pins s σ H Q I h;refine isTrue_or (thn (ha pins s σ H _ I h) fun c s1 ⟨H1,I1,q1⟩=>?_)
 cases c with
 | true=>exact ⟨H1,I1,q1⟩
 | false=>exact hb wh pins s1 σ H1 Q I1 q1
theorem Jr (ha:PT X a tA):PT X (.UnaryOp .Not a pos) (Nj tA):=by
 intro pins s σ H Q I h;exact isTrue_not (ha pins s σ H (fun c H1=>Q (!c) H1) I h)
noncomputable def LN (ta tb:TE):TE:=fun σ H Q=>ta σ H fun x H1=>∃ c,x = .bl c/\if c = true then tb σ H1 Q else Q (.bl false) H1
noncomputable def Ni (ta tb:TE):TE:=fun σ H Q=>ta σ H fun x H1=>∃ c,x = .bl c/\if c = true then Q (.bl true) H1 else tb σ H1 Q
noncomputable def LJ (ta:TE):TE:=fun σ H Q=>ta σ H fun x H1=>∃ c,x = .bl c/\Q (.bl (!c)) H1
theorem Df (h:PE X a t):PE X (.BoolOp op [a] pos) t:=fun pins s σ H Q I hw=>BoolOp_one (h pins s σ H Q I hw)
theorem JI (ha:PE X a ta) (hb:PE X (.BoolOp .And (b::rest) pos) tb):PE X (.BoolOp .And (a::b::rest) pos) (LN ta tb):=by
 intro pins s σ H Q I h;refine BoolOp_and (thn (ha pins s σ H _ I h) fun v s1 ⟨x,H1,I1,r1,q1⟩=>?_);obtain ⟨c,rfl,q1⟩:=q1;cases r1;refine fE ?_
 cases c with
 | true=>exact hb pins s1 σ H1 Q I1 q1
 | false=>exact ⟨.bl false,H1,I1,rfl,q1⟩
theorem Mh (ha:PE X a ta) (hb:PE X (.BoolOp .Or (b::rest) pos) tb):PE X (.BoolOp .Or (a::b::rest) pos) (Ni ta tb):=by
 intro pins s σ H Q I h;refine BoolOp_or (thn (ha pins s σ H _ I h) fun v s1 ⟨x,H1,I1,r1,q1⟩=>?_);obtain ⟨c,rfl,q1⟩:=q1;cases r1;refine fE ?_
 cases c with
 | false=>exact hb pins s1 σ H1 Q I1 q1
 | true=>exact ⟨.bl true,H1,I1,rfl,q1⟩
theorem JE (ha:PE X a ta):PE X (.UnaryOp .Not a pos) (LJ ta):=by
 intro pins s σ H Q I h;refine UnaryOp_ (thn (ha pins s σ H _ I h) fun v s1 ⟨x,H1,I1,r1,q1⟩=>?_);obtain ⟨c,rfl,q1⟩:=q1;cases r1;exact not_of (fE ⟨.bl (!c),H1,I1,rfl,q1⟩)
noncomputable def tIf (t:TT) (ta tb:TE):TE:=fun σ H Q=>t σ H fun c H1=>if c = true then ta σ H1 Q else tb σ H1 Q
theorem Di {c:aE} (hc:PT X c tA) (ha:PE X a ta) (hb:PE X b tb):PE X (.IfExp c a b pos) (tIf tA ta tb):=by
 intro pins s σ H Q I h;refine wpAny_IfExp (thn (hc pins s σ H _ I h) fun d s1 ⟨H1,I1,q1⟩=>?_)
 cases d with
 | true=>exact ha pins s1 σ H1 Q I1 q1
 | false=>exact hb pins s1 σ H1 Q I1 q1
end
end L2
namespace L2
open PySem PySem.Spec PyProof.Rows
noncomputable def SqL (K:PySem.W.Frag) (H:Hp) (a:av) (xs:List V):Prop :=
 Rd H a (.lst xs) \/
  ∃ (o:Obj) (its:Array af) (n:Nat),K.lookup a = some o/\o.cls = .type "list"/\o.dict = none/\o.data = .seq its n/\its.size<=sizeLine/\Vals xs its.toList
noncomputable def SqT (K:PySem.W.Frag) (H:Hp) (a:av) (xs:List V):Prop :=
 Rd H a (.tup xs) \/
  ∃ (o:Obj) (its:Array af) (n:Nat),K.lookup a = some o/\o.cls = .type "tuple"/\o.data = .seq its n/\its.size<=sizeLine/\Vals xs its.toList
noncomputable def NV:af->Option V
 | .none=>some .non
 | .bool b=>some (.bl b)
 | .int i _=>some (.int i)
 | .str x _=>some (.str x)
 | .bytes b _=>some (.byt b)
 | .float b _=>some (.flt b)
 | .ref a=>some (.ref a)
 | .type n=>some (.ty n)
 | _=>none
theorem RelV.abs (r:RelV x u):NV u = some x:=by
 cases x with
 | non=>cases r;rfl
 | bl _=>cases r;rfl
 | int _=>obtain ⟨t,rfl⟩:=r;rfl
 | str _=>obtain ⟨t,rfl⟩:=r;rfl
 | byt _=>obtain ⟨t,rfl⟩:=r;rfl
 | flt _=>obtain ⟨t,rfl⟩:=r;rfl
 | ref _=>cases r;rfl
 | ty _=>cases r;rfl
theorem RelV.inj {x y:V} {u:af} (r:RelV x u) (q:RelV y u):x = y:=bt (r.abs.symm.trans q.abs)
theorem Vals.inj:∀ {xs ys:List V} {us:List af},Vals xs us->Vals ys us->xs = ys
 | _,_,_,.nil,.nil=>rfl
 | _,_,_,.cons r t,.cons r' t'=>by rw [r.inj r',Vals.inj t t']
section
variable {X:Cx} {pins:List (av × Obj)} {σ:St} {H:Hp} {s:ai} {a:av} {xs ys:List V}
theorem SqT.of {K:PySem.W.Frag} (h:H a = some (.tup xs)):SqT K H a xs:=.inl (.inl h)
theorem Inv.list (I:Inv X pins σ H s) (h:SqL X.K H a xs):∃ its:List af,Vals xs its/\PlainL s.heap a its.toArray/\xs.length<=sizeLine:=by
 rcases h with h | ⟨o,its,n,hk,hc,hd,hs,hz,r⟩
 . obtain ⟨z,its,n,r,e⟩:=h.ok I.hok;exact ⟨its,r,⟨_,n,e,rfl,rfl,rfl⟩,z⟩
 . refine ⟨its.toList,r,⟨o,n,I.kIn a o hk,hc,hd,by simpa using hs⟩,?_⟩;have e:=r.length;simp only [bp] at e
   lia
theorem Inv.tuple (I:Inv X pins σ H s) (h:SqT X.K H a xs):∃ its:List af,Vals xs its/\Bb s.heap a its.toArray/\xs.length<=sizeLine:=by
 rcases h with h | ⟨o,its,n,hk,hc,hs,hz,r⟩
 . obtain ⟨z,its,r,p⟩:=h.ok I.hok;exact ⟨its,r,p,z⟩
 . refine ⟨its.toList,r,⟨o,I.kIn a o hk,hc,n,by simpa using hs⟩,?_⟩;have e:=r.length;simp only [bp] at e
   lia
theorem Inv.list_inj (I:Inv X pins σ H s) (h:SqL X.K H a xs) (h':SqL X.K H a ys):xs = ys:=by
 obtain ⟨its,r,⟨o,n,e,_,_,d⟩,_⟩:=I.list h;obtain ⟨its',r',⟨o',n',e',_,_,d'⟩,_⟩:=I.list h';rw [e] at e';cases e';rw [d] at d';injection d' with d1 _;have:its = its':=by simpa using congrArg Array.toList d1
 subst this;exact r.inj r'
theorem Inv.tuple_inj (I:Inv X pins σ H s) (h:SqT X.K H a xs) (h':SqT X.K H a ys):xs = ys:=by
 obtain ⟨its,r,⟨o,e,_,n,d⟩,_⟩:=I.tuple h;obtain ⟨its',r',⟨o',e',_,n',d'⟩,_⟩:=I.tuple h';rw [e] at e';cases e';rw [d] at d';injection d' with d1 _;have:its = its':=by simpa using congrArg Array.toList d1
 subst this;exact r.inj r'
end
abbrev Cx.wish (X:Cx) (E:af->ai->Prop):Cx:={ X with xe:=E }
abbrev Cx.nox (X:Cx):Cx:=X.wish fun _ _=>False
theorem Cx.Ok.wish {X:Cx} (ok:X.Ok) (E:af->ai->Prop):(X.wish E).Ok :=
 ⟨ok.mod,ok.kind,ok.glob,ok.blt,ok.above,ok.inj,ok.has,ok.cab,ok.hd,ok.frames,ok.stk,ok.exf,ok.bs,ok.bsz,ok.noex,ok.exfs,ok.funs,ok.frf⟩
theorem Cx.Ok.unwish {X:Cx} {E:af->ai->Prop} (ok:(X.wish E).Ok):X.Ok :=
 ⟨ok.mod,ok.kind,ok.glob,ok.blt,ok.above,ok.inj,ok.has,ok.cab,ok.hd,ok.frames,ok.stk,ok.exf,ok.bs,ok.bsz,ok.noex,ok.exfs,ok.funs,ok.frf⟩
section
variable {X:Cx} {pins:List (av × Obj)} {σ:St} {H:Hp} {s:ai} {E:af->ai->Prop}
theorem Inv.wish (I:Inv X pins σ H s) (E:af->ai->Prop):Inv (X.wish E) pins σ H s:=⟨I.ok.wish E,I.os,I.bare,I.base,I.loc,I.cell,I.free,I.freeC,I.pin,I.hok,I.len⟩
theorem Inv.unwish (I:Inv (X.wish E) pins σ H s):Inv X pins σ H s:=⟨I.ok.unwish,I.os,I.bare,I.base,I.loc,I.cell,I.free,I.freeC,I.pin,I.hok,I.len⟩
theorem SP.unwish {D:Ends} {f:Flow} {s':ai} (h:SP (X.wish E) pins D f s'):SP X pins D f s':=by
 cases f with
 | next=>obtain ⟨σ',H',I,q⟩:=h;exact ⟨σ',H',I.unwish,q⟩
 | brk=>obtain ⟨σ',H',I,q⟩:=h;exact ⟨σ',H',I.unwish,q⟩
 | cont=>obtain ⟨σ',H',I,q⟩:=h;exact ⟨σ',H',I.unwish,q⟩
 | ret u=>obtain ⟨v,σ',H',I,r,q⟩:=h;exact ⟨v,σ',H',I.unwish,r,q⟩
theorem PSs.nox {st:List cY} {t:TS} (h:PSs X.nox st t):PSs X st t:=fun pins s σ H D I hw =>
 iJ (h pins s σ H D (I.wish _) hw) (fun _ _ q=>q.unwish) fun _ _ z=>cB z
end
section
variable {X:Cx} {st:cY} {rest:List cY} {t u:TS} {e:aE} {te:TE} {pos:Pos}
noncomputable def LK:TS:=fun D σ H=>D.nx σ H
noncomputable def Nf (t u:TS):TS:=fun D σ H=>t { D with nx:=u D } σ H
theorem Gq:PSs X [] LK:=fun _ _ σ H _ I h=>wpAny_execs_nil ⟨σ,H,I,h⟩
theorem CU (h1:PS X st t) (h2:PSs X rest u):PSs X (st::rest) (Nf t u):=by
 intro pins s σ H D I h;refine wpAny_execs_cons (thn (h1 pins s σ H { D with nx:=u D } I h) fun f s1 q=>?_)
 cases f with
 | next =>
   obtain ⟨σ',H',I',q⟩:=q
   exact h2 pins s1 σ' H' D I' q
 | ret v=>exact q
 | brk=>exact q
 | cont=>exact q
theorem Inv.quiet {pins:List (av × Obj)} {σ:St} {H:Hp} {s:ai} (I:Inv X pins σ H s):interactive X.env = false:=by simp [interactive,I.ok.kind]
noncomputable def LL (te:TE):TS:=fun D σ H=>te σ H fun _ H1=>D.nx σ H1
theorem yh (he:PE X e te) (hs:swapsWith e none pos.line X.env = pure false:=by rfl):PS X (.Expr e pos) (LL te):=by
 intro pins s σ H D I h;exact wpAny_Expr_any (thn (he pins s σ H _ I h) fun v s1 ⟨x,H1,I1,r1,q1⟩=>⟨σ,H1,I1,q1⟩) I.quiet hs
noncomputable def Ng (te:TE):TS:=fun D σ H=>te σ H D.rt
theorem Jt (he:PE X e te):PS X (.Return (some e) pos) (Ng te):=by
 intro pins s σ H D I h;exact Lo (thn (he pins s σ H _ I h) fun v s1 ⟨x,H1,I1,r1,q1⟩=>⟨x,σ,H1,I1,r1,q1⟩)
noncomputable def Nl (c:TT) (t u:TS):TS:=fun D σ H=>c σ H fun b H1=>if b = true then t D σ H1 else u D σ H1
theorem Mc {c:aE} {a b:List cY} {tc:TT} (hc:PT X c tc) (ha:PSs X a t) (hb:PSs X b u):PS X (.If c a b pos) (Nl tc t u):=by
 intro pins s σ H D I h;refine wpAny_If (thn (hc pins s σ H _ I h) fun d s1 ⟨H1,I1,q1⟩=>?_)
 cases d with
 | true=>exact ha pins s1 σ H1 D I1 q1
 | false=>exact hb pins s1 σ H1 D I1 q1
end
abbrev TG:=V->St->Hp->(St->Hp->Prop)->Prop
abbrev TGs:=List V->St->Hp->(St->Hp->Prop)->Prop
noncomputable def PG (X:Cx) (target:aE) (t:TG):Prop :=
 ∀ (pins:List (av × Obj)) (s:ai) (σ:St) (H:Hp) (v:V) (u:af) (Q:St->Hp->Prop),Inv X pins σ H s->RelV v u->t v σ H Q ->
  wpAny (model X.prog X.w) X.A (assign target X.env u) (fun _ s'=>∃ σ' H',Inv X pins σ' H' s'/\Q σ' H') X.xe s
noncomputable def PGs (X:Cx) (ts:List aE) (t:TGs):Prop :=
 ∀ (pins:List (av × Obj)) (s:ai) (σ:St) (H:Hp) (vs:List V) (us:List af) (Q:St->Hp->Prop),Inv X pins σ H s->Vals vs us->t vs σ H Q ->
  wpAny (model X.prog X.w) X.A (assignInOrder ((assignEach ts X.env).map (·.2)) us) (fun _ s'=>∃ σ' H',Inv X pins σ' H' s'/\Q σ' H') X.xe s
abbrev Lb:=V->V->V->Hp->(Hp->Prop)->Prop
noncomputable def MU (X:Cx) (t:Lb):Prop :=
 ∀ (pins:List (av × Obj)) (s:ai) (σ:St) (H:Hp) (o i v:V) (ov iv u:af) (Q:Hp->Prop),Inv X pins σ H s->RelV o ov->RelV i iv->RelV v u->t o i v H Q ->
  wpAny (model X.prog X.w) X.A (setItem ov iv u) (fun _ s'=>∃ H',Inv X pins σ H' s'/\Q H') X.xe s
section
variable {X:Cx} {pos:Pos}
noncomputable def vm (i:Nat):TG:=fun v σ H Q=>Q (σ.set i (some v)) H
theorem yk (hN:X.N.Nodup) (hi:X.N[i]? = some x) (hx:Loc X.env.scope x) (hf:X.fn x = true\/X.env.scope.names.lookup x = some .local:=by first | exact .inl rfl | exact .inr rfl | assumption):PG X (.Name x pos) (vm i):=by
 intro pins s σ H v u Q I r h;exact Ll (ku I hN hi hx r (fun s' I'=>⟨_,H,I',h⟩) hf)
noncomputable def MJ:TGs:=fun vs σ H Q=>vs = []/\Q σ H
noncomputable def HS (t:TG) (u:TGs):TGs:=fun vs σ H Q=>∃ v r,vs = v::r/\t v σ H fun σ' H'=>u r σ' H' Q
theorem Gv:PGs X [] MJ:=by
 intro pins s σ H vs us Q I r h;obtain ⟨e,h⟩:=h;subst e;cases r;exact Lq ⟨σ,H,I,h⟩
theorem De {e:aE} {es:List aE} {t:TG} {u:TGs} (h1:PG X e t) (h2:PGs X es u)
 (hs:(assignEach (e::es) X.env).map (·.2) = assign e X.env::(assignEach es X.env).map (·.2):=by rfl):PGs X (e::es) (HS t u):=by
 intro pins s σ H vs us Q I r h;obtain ⟨v,vr,e1,h⟩:=h;subst e1
 cases r with
 | cons r rr =>
   rw [hs];refine qw (thn (h1 pins s σ H _ _ _ I r h) fun _ s1 ⟨σ1,H1,I1,q1⟩=>?_);exact h2 pins s1 σ1 H1 _ _ Q I1 rr q1
noncomputable def NL (K:PySem.W.Frag) (n:Nat) (t:TGs):TG:=fun v σ H Q=>∃ a xs,v = .ref a/\SqT K H a xs/\xs.length = n/\t xs σ H Q
theorem Jy (hc:X.calm = true) (h:PGs X es t)
 (hn:(assignEach es X.env).length = n:=by rfl) (hst:(assignEach es X.env).findIdx? (·.1) = none:=by rfl):PG X (.Tuple es k pos) (NL X.K n t):=by
 intro pins s σ H v u Q I r hw;obtain ⟨a,xs,e1,hq,hl,hw⟩:=hw;subst e1;cases r;obtain ⟨its,rv,ht,hz⟩:=I.tuple hq;refine assign_Tuple_tuple (I.ok.hd hc) ht (by simp [hn,<- hl,rv.length]) hst fun h' hx=>?_;have I1:Inv X pins σ H { s with heap:=h' }:=I.kept (t':=s.toks) fun b o e=>hx b o (aJ (aA e)) e;exact h pins _ σ H xs _ Q I1 (by simpa using rv) hw
noncomputable def NM (to ti:TE) (t:Lb):TG:=fun v σ H Q=>to σ H fun o H1=>ti σ H1 fun i H2=>t o i v H2 fun H3=>Q σ H3
theorem Jz {o i:aE} {to ti:TE} {t:Lb} (ho:PE X o to) (hi:PE X i ti) (hs:MU X t)
 (ha:∀ v,assign (.Subscript o i pos) X.env v = (do
   let ov <- holding [v] (eval o X.env)
   let iv <- holding [v,ov] (eval i X.env)
   standAt pos
   holding [v,ov,iv] (setItem ov iv v)
   release [v,ov,iv] []):=by intro _;rfl):PG X (.Subscript o i pos) (NM to ti t):=by
 intro pins s σ H v u Q I r h;rw [ha];refine ab (cE (thn (ho pins s σ H _ I h) fun ov s1 ⟨x,H1,I1,r1,q1⟩=>?_));refine ab (cE (thn (hi pins s1 σ H1 _ I1 q1) fun iv s2 ⟨y,H2,I2,r2,q2⟩=>?_));refine ab (fu (ab (cE (thn (hs pins s2 σ H2 x y v ov iv u _ I2 r1 r2 r q2) fun _ s3 ⟨H3,I3,q3⟩=>?_))));exact wpAny_release ⟨σ,H3,I3,q3⟩
noncomputable def Fy (te:TE) (g:TG):TS:=fun D σ H=>te σ H fun x H1=>g x σ H1 D.nx
theorem CY {tg e:aE} {te:TE} {g:TG} (he:PE X e te) (hg:PG X tg g) (hs:swapsWithSole [tg] e pos.line X.env = pure false:=by rfl) (hw:swappedStores [tg] e X.env = pure none:=by rfl)
 (h1:(assignEach [tg] X.env).map (·.2) = [assign tg X.env]:=by rfl):PS X (.Assign [tg] e pos) (Fy te g):=by
 intro pins s σ H D I h;refine wpAny_Assign_stores (thn (he pins s σ H _ I h) fun v s1 ⟨x,H1,I1,r1,q1⟩=>?_) hs hw;rw [h1];exact thn (hg pins s1 σ H1 x v _ I1 r1 q1) fun _ s2 q=>q
theorem Js {i:Nat} {x:Str} {e:aE} {te:TE} {pos':Pos} (hN:X.N.Nodup) (hi:X.N[i]? = some x) (hx:Loc X.env.scope x) (he:PE X e te) (hs:swapsWith e (some (.Name x pos')) pos.line X.env = pure false:=by rfl) (hf:X.fn x = true\/X.env.scope.names.lookup x = some .local:=by first | exact .inl rfl | exact .inr rfl | assumption) :
 PS X (.Assign [.Name x pos'] e pos) (Fy te (vm i)):=by
 intro pins s σ H D I h;refine wpAny_Assign_Name (thn (he pins s σ H _ I h) fun v s1 ⟨y,H1,I1,r1,q1⟩=>?_) hs;exact ku I1 hN hi hx r1 (fun s2 I2=>⟨_,H1,I2,q1⟩) hf
noncomputable def Nh (i j:Nat) (ta:TA):TS:=fun D σ H=>ta σ H fun vs H1=>∃ v w,vs = [v,w]/\D.nx ((σ.set i (some v)).set j (some w)) H1
theorem Ju {i j:Nat} {x y:Str} {a b:aE} {ta:TA} {px py pt:Pos} {kt k2 pt2} (hc:X.calm = true) (hN:X.N.Nodup) (hi:X.N[i]? = some x) (hj:X.N[j]? = some y) (hij:i≠j)
 (hx:X.env.scope.names.lookup x = some .local) (hy:X.env.scope.names.lookup y = some .local) (ha:PA X [a,b] ta)
 (hw:swappedStores [.Tuple [.Name x px,.Name y py] kt pt] (.Tuple [a,b] k2 pt2) X.env = pure (some [x,y]))
 (hs:swapsWithSole [.Tuple [.Name x px,.Name y py] kt pt] (.Tuple [a,b] k2 pt2) pos.line X.env = pure false:=by rfl) :
 PS X (.Assign [.Tuple [.Name x px,.Name y py] kt pt] (.Tuple [a,b] k2 pt2) pos) (Nh i j ta):=by
 intro pins s σ H D I h;rw [exec_Assign_arm];refine ab (fu ?_);rw [hs];refine ab (aw ?_);rw [if_neg (by decide)];refine ab (Tuple_ (thn (ha _ pins s σ H _ I h) fun us s1 ⟨vs,H1,I1,r1,q1⟩=>?_));obtain ⟨v,w,e1,q1⟩:=q1;subst e1
 obtain ⟨u1,u2,rfl,rv,rw'⟩:∃ u1 u2,us = [u1,u2]/\RelV v u1/\RelV w u2:=by
  cases r1 with
  | cons p q =>
    cases q with
    | cons p' q' =>
      cases q';exact ⟨_,_,rfl,p,p'⟩
 refine aR ?_ (by show 2<=sizeLine;decide);have I2:Inv X pins σ H1 { s1 with heap:=s1.heap.push { cls:=.type "tuple",data:=.seq [u1,u2].toArray } }:=I1.kept (t':=s1.toks) fun b o e=>ah _ e;rw [hw];refine ab (aw ?_);show wpAny (model X.prog X.w) X.A (do rule "assign.swapped-stores";let items <- unpackItems (.ref s1.heap.objs.size) 2 none;assignInOrder [fun v=>bindName X.env y v,fun v=>bindName X.env x v] items.reverse;pure Flow.next) _ _ _;refine ab (iI (ab (unpackItems_tuple (items := #[u1,u2]) (I.ok.hd hc) (oK s1.heap _) fun h' hx'=>?_)));have I3:=I2.kept (h':=h') (t':=s1.toks) fun b o e=>hx' b o (aJ (aA e)) e;show wpAny _ _ (assignInOrder [fun v=>bindName X.env y v,fun v=>bindName X.env x v] [u2,u1] >>= fun _=>pure Flow.next) _ _ _;refine ab (qw (wpAny_bindName (ku I3 hN hj (.inl hy) rw' (fun s2 I4=>?_) (.inr hy))));refine qw (wpAny_bindName (ku I4 hN hi (.inl hx) rv (fun s3 I5=>Lq (aw ?_)) (.inr hx)));rw [List.set_comm _ _ (Ne.symm hij)] at I5;exact ⟨_,H1,I5,q1⟩
end
section
variable {X:Cx} {pos:Pos}
end
structure It where
 go:Nat->Hp->Prop
 yld:Nat->Hp->V->Hp->Prop
 stop:Nat->Hp->Prop
noncomputable def jX (X:Cx) (pins:List (av × Obj)) (H:Hp) (b:av):Prop :=
 H b = none/\b≠X.env.locals/\b∉X.fs/\(b∈X.ex\/X.s₀.heap.objs.size<=b)/\(∀ x c,X.env.cells.lookup x = some c->c≠b)/\∀ p∈X.pn++pins,p.1≠b
theorem Inv.fpOk (I:Inv X pins σ H s) (hb:s.heap.objs.size<=b) (hn:H' b = none):jX X pins H' b:=by
 refine ⟨hn,fK (aS I.lt hb),I.nofs hb,.inr (bc I.sz hb),fun x c e z=>?_,fun p hp z=>?_⟩
 . obtain ⟨v,q⟩:=I.cell x c e;exact absurd (aS q.lt (by rw [z];exact hb)) (cu _)
 . exact absurd (aS (aA (I.pin p hp).1) (by rw [z];exact hb)) (cu _)
structure Turn (P:aM) (w:bj) (K:PySem.W.Frag) (tg:aE) (J:It) (fp:List av) (it:av) (tn:Nat->bJ->Prop):Prop where
 mem:it∈fp
 obj:∀ i h,tn i h->∀ b∈fp,∃ o,h.get? b = some o/\∀ v,o.data≠.cell v
 keep:∀ i h h',tn i h->(∀ b∈fp,∀ o,h.get? b = some o->h'.get? b = some o)->tn i h'
 item:∀ (X:Cx),X.prog = P->X.w = w->X.K = K->X.calm = true->∀ (i:Nat) (pins:List (av × Obj)) (s:ai) (σ:St) (H:Hp) (E:af->ai->Prop),Inv X pins σ H s->(∀ b∈fp,jX X pins H b)->tn i s.heap->J.go i H ->
  wpAny (model P w) X.A (pyNext (.ref it)) (fun r s1=>∃ u,r = some u /\
   wpAny (model P w) X.A (letOwnedTupleGo tg (.ref it) u) (fun _ s2=>∃ x H',Inv X pins σ H' s2/\RelV x u/\J.yld i H x H'/\tn (i+1) s2.heap/\∀ b∈fp,H' b = none) E s1) E s
 done:∀ (X:Cx),X.prog = P->X.w = w->X.K = K->X.calm = true->∀ (i:Nat) (pins:List (av × Obj)) (s:ai) (σ:St) (H:Hp) (E:af->ai->Prop),Inv X pins σ H s->(∀ b∈fp,jX X pins H b)->tn i s.heap->J.stop i H ->
  wpAny (model P w) X.A (pyNext (.ref it)) (fun r s1=>r = none/\Inv X pins σ H s1) E s
 self:∀ (A:ba) (i:Nat) (s:ai) (Q:af->ai->Prop) (E:af->ai->Prop),tn i s.heap->Q (.ref it) s->wpAny (model P w) A (pyIter (.ref it)) Q E s
abbrev TI:=St->Hp->(It->Hp->Prop)->Prop
noncomputable def PIE (X:Cx) (pins:List (av × Obj)) (σ:St) (tg:aE) (R:It->Hp->Prop) (itv:af) (s2:ai):Prop :=
 ∃ (it:av) (fp:List av) (tn:Nat->bJ->Prop) (J:It) (H':Hp),itv = .ref it/\Inv X pins σ H' s2/\Turn X.prog X.w X.K tg J fp it tn/\tn 0 s2.heap/\(∀ b∈fp,jX X pins H' b)/\R J H'
noncomputable def PI (X:Cx) (tg iter:aE) (wi:TI):Prop :=
 ∀ (pins:List (av × Obj)) (s:ai) (σ:St) (H:Hp) (R:It->Hp->Prop),Inv X pins σ H s->wi σ H R ->
  wpAny (model X.prog X.w) X.A (eval iter X.env) (fun v s1=>wpAny (model X.prog X.w) X.A (pyIter v) (PIE X pins σ tg R) X.xe s1) X.xe s
theorem yF (ho:s.heap.get? it = some o) (hc:o.cls = .type n) (hd:o.data = .fields vs)
 (hn:["enumerate","zip","dict_itemiterator","dict_reverseitemiterator","odict_iterator","itertools.zip_longest","itertools.pairwise"].contains n = false) (hQ:Q () s):wpAny M A (letOwnedTupleGo tg (.ref it) u) Q E s:=by
 unfold letOwnedTupleGo
 cases tg<;>first
  | exact aw hQ
  | (cases u<;>first
      | exact aw hQ
      | (refine ab (wpAny_load ho ?_)
         rw [hc,hd];show wpAny M A (if (["enumerate","zip","dict_itemiterator","dict_reverseitemiterator","odict_iterator","itertools.zip_longest","itertools.pairwise"].contains n && vs[0]? == some (rawInt _)) = true then _ else _) Q E s;rw [if_neg (by intro h;rw [hn,rX] at h;cases h)];exact aw hQ))
noncomputable def Itl (K:PySem.W.Frag) (a:av):It :=
 ⟨fun i H=>∃ xs x,SqL K H a xs/\xs[i]? = some x,fun i H x H'=>H' = H/\∀ xs,SqL K H a xs->xs[i]? = some x,fun i H=>∃ xs,SqL K H a xs/\xs.length<=i⟩
noncomputable def Itt (K:PySem.W.Frag) (a:av):It :=
 ⟨fun i H=>∃ xs x,SqT K H a xs/\xs[i]? = some x,fun i H x H'=>H' = H/\∀ xs,SqT K H a xs->xs[i]? = some x,fun i H=>∃ xs,SqT K H a xs/\xs.length<=i⟩
noncomputable def Itr (lo:Int) (n:Nat):It:=⟨fun i _=>i < n,fun i H x H'=>H' = H/\x = .int (lo+i),fun i _=>n<=i⟩
theorem zL {P:aM} {w:bj} {K:PySem.W.Frag} {tg:aE} (a it:av):Turn P w K tg (Itl K a) [it] it (fun i h=>h.IsListIter it a i) where
 mem:=by simp
 obj:=fun i h st b hb=>by
  have e:b = it:=by simpa using hb
  subst e;obtain ⟨o,e,c,d⟩:=st;exact ⟨o,e,fun v z=>by rw [d] at z;cases z⟩
 keep:=fun i h h' st k=>st.at fun o e=>k it (by simp) o e
 item:=by
  intro X hP hw hK hc i pins s σ H E I hf st hg;subst hP hw hK;obtain ⟨xs,x,hq,hx⟩:=hg;obtain ⟨its,rv,p,hz⟩:=I.list hq;obtain ⟨u,hu,ru⟩:=rv.get hx;obtain ⟨f0,f1,f2,f3,f4,f5⟩:=hf it (by simp);refine wpAny_pyNext_list_item st p.isList (x:=u) (by simpa using hu) fun h' st' sb=>?_;have I1:Inv X pins σ H { s with heap:=h' }:=I.turned (t':=s.toks) (fun b o hb e=>(sb.2 b hb).trans e) f0 f1 f3 f4 f5;obtain ⟨o,e,c,d⟩:=id st';exact ⟨u,rfl,yF (s:={ s with heap:=h' }) e c d (by decide) ⟨x,H,I1,ru,⟨rfl,fun ys hy=>by rw [I.list_inj hy hq];exact hx⟩,st',fun b hb=>(hf b hb).1⟩⟩
 done:=by
  intro X hP hw hK hc i pins s σ H E I hf st hg;subst hP hw hK;obtain ⟨xs,hq,hx⟩:=hg;obtain ⟨its,rv,p,hz⟩:=I.list hq;obtain ⟨f0,f1,f2,f3,f4,f5⟩:=hf it (by simp);have hl:=rv.length;exact wpAny_pyNext_list_end (I.ok.hd hc) st p.isList (by simp;lia) fun h' eb=>⟨rfl,I.turned (t':=s.toks) (fun b o hb e=>eb b o hb e) f0 f1 f3 f4 f5⟩
 self:=fun _ _ _ _ _ st h=>wpAny_pyIter_listiter st h
theorem wj {P:aM} {w:bj} {K:PySem.W.Frag} {tg:aE} (a it:av):Turn P w K tg (Itt K a) [it] it (fun i h=>h.IsTupleIter it a i) where
 mem:=by simp
 obj:=fun i h st b hb=>by
  have e:b = it:=by simpa using hb
  subst e;obtain ⟨o,e,c,d⟩:=st;exact ⟨o,e,fun v z=>by rw [d] at z;cases z⟩
 keep:=fun i h h' st k=>st.at fun o e=>k it (by simp) o e
 item:=by
  intro X hP hw hK hc i pins s σ H E I hf st hg;subst hP hw hK;obtain ⟨xs,x,hq,hx⟩:=hg;obtain ⟨its,rv,p,hz⟩:=I.tuple hq;obtain ⟨u,hu,ru⟩:=rv.get hx;obtain ⟨f0,f1,f2,f3,f4,f5⟩:=hf it (by simp);refine wpAny_pyNext_tuple_item st (show s.heap.IsTuple a its.toArray from p) (x:=u) (by simpa using hu) fun h' st' sb=>?_;have I1:Inv X pins σ H { s with heap:=h' }:=I.turned (t':=s.toks) (fun b o hb e=>(sb.2 b hb).trans e) f0 f1 f3 f4 f5;obtain ⟨o,e,c,d⟩:=id st';exact ⟨u,rfl,yF (s:={ s with heap:=h' }) e c d (by decide) ⟨x,H,I1,ru,⟨rfl,fun ys hy=>by rw [I.tuple_inj hy hq];exact hx⟩,st',fun b hb=>(hf b hb).1⟩⟩
 done:=by
  intro X hP hw hK hc i pins s σ H E I hf st hg;subst hP hw hK;obtain ⟨xs,hq,hx⟩:=hg;obtain ⟨its,rv,p,hz⟩:=I.tuple hq;obtain ⟨f0,f1,f2,f3,f4,f5⟩:=hf it (by simp);have hl:=rv.length;exact wpAny_pyNext_tuple_end (I.ok.hd hc) st (show s.heap.IsTuple a its.toArray from p) (by simp;lia) fun h' eb=>⟨rfl,I.turned (t':=s.toks) (fun b o hb e=>eb b o hb e) f0 f1 f3 f4 f5⟩
 self:=fun _ _ _ _ _ st h=>wpAny_pyIter_tupleiter st h
theorem wm {P:aM} {w:bj} {K:PySem.W.Frag} {tg:aE} (it:av) (lo:Int) (n:Nat):Turn P w K tg (Itr lo n) [it] it (fun i h=>IsRangeIter h it (lo+(i:Nat) * 1) ((n:Int) - (i:Nat)) 1) where
 mem:=by simp
 obj:=fun i h st b hb=>by
  have e:b = it:=by simpa using hb
  subst e
  exact ⟨_,st,fun v z=>by
   have z':Data.fields _ = Data.cell v:=z;cases z'⟩
 keep:=fun i h h' st k=>k it (by simp) _ st
 item:=by
  intro X hP hw hK hc i pins s σ H E I hf st hg;subst hP hw hK;obtain ⟨f0,f1,f2,f3,f4,f5⟩:=hf it (by simp);have W:=Walks.range (prog:=X.prog) (w:=X.w) (I.ok.hd hc) it lo 1 n;refine W.item i s _ _ hg st fun v h' tk hv st' kk=>?_;obtain ⟨t,rfl⟩:=hv;have I1:Inv X pins σ H { s with heap:=h',toks:=tk }:=I.turned (fun b o hb e=>kk b o (by simpa using hb) e) f0 f1 f3 f4 f5;refine ⟨_,rfl,yF (s:={ s with heap:=h',toks:=tk }) (n:="range_iterator") st' rfl rfl (by decide) ⟨.int (lo+i),H,I1,⟨t,?_⟩,⟨rfl,rfl⟩,st',fun b hb=>(hf b hb).1⟩⟩;rw [Int.mul_one]
 done:=by
  intro X hP hw hK hc i pins s σ H E I hf st hg;subst hP hw hK;obtain ⟨f0,f1,f2,f3,f4,f5⟩:=hf it (by simp);exact wpAny_pyNext_range_end (I.ok.hd hc) st (by have:n<=i:=hg;lia) fun h' eb=>⟨rfl,I.turned (t':=s.toks) (fun b o hb e=>eb b o hb e) f0 f1 f3 f4 f5⟩
 self:=fun _ _ _ _ _ st h=>wpAny_pyIter_rangeiter st h
end L2
namespace L2
open PySem PySem.Spec PyProof.Rows
section
variable {X:Cx} {tg:aE}
theorem CG {pins:List (av × Obj)} {σ:St} {H:Hp} {s:ai} {R:It->Hp->Prop} {E:af->ai->Prop} {lo hi:Int} {t u v:Tok} {tk:Nat} (I:Inv X pins σ H s) (h1:-(2 ^ 62)<=lo) (h2:lo < 2 ^ 62) (h3:-(2 ^ 62)<=hi) (h4:hi < 2 ^ 62)
 (q:R (Itr lo (hi - lo).toNat) H):wpAny (model X.prog X.w) X.A (pyIter (.ref s.heap.objs.size)) (PIE X pins σ tg R) E { s with heap:=s.heap.push { cls:=.type "range",data:=.fields #[.int lo t,.int hi u,.int 1 v] },toks:=tk }:=by
 refine wpAny_pyIter_range (IsRange.new ..) (small_one h1 h2 h3 h4) ?_;have I1:Inv X pins σ H { s with heap:=s.heap.push { cls:=.type "range",data:=.fields #[.int lo t,.int hi u,.int 1 v] },toks:=tk }:=I.kept fun b o e=>ah _ e
 refine ⟨(s.heap.push { cls:=.type "range",data:=.fields #[.int lo t,.int hi u,.int 1 v] }).objs.size,[(s.heap.push { cls:=.type "range",data:=.fields #[.int lo t,.int hi u,.int 1 v] }).objs.size],_,_,H,rfl,
  I1.kept (t':=tk) fun b o e=>ah _ e,wm _ lo (hi - lo).toNat,?_,fun b hb=>?_,q⟩
 . have e1:lo+((0:Nat):Int) * 1 = lo:=by simp
   have e2:(((hi - lo).toNat:Nat):Int) - ((0:Nat):Int) = Builtin.Range.rangeSize lo hi 1:=by rw [rangeSize_one];split<;>lia
   show IsRangeIter _ _ (lo+((0:Nat):Int) * 1) ((((hi - lo).toNat:Nat):Int) - ((0:Nat):Int)) 1;rw [e1,e2];exact aF _ rfl
 . have e:b = (s.heap.push { cls:=.type "range",data:=.fields #[.int lo t,.int hi u,.int 1 v] }).objs.size:=by simpa using hb
   subst e;exact I1.fpOk (aB _) (I1.hok.fresh (aB _))
noncomputable def MH (ta:TA):TI:=fun σ H R=>ta σ H fun vs H1=>∃ j:Int,vs = [.int j]/\-(2 ^ 62)<=j/\j < 2 ^ 62/\R (Itr 0 j.toNat) H1
theorem Ae {a:aE} {ta:TA} {p pos:Pos} (hg:Gl X "range") (hm:X.mg "range" = none) (ha:PA X [a] ta) (hs:starEach [a] X.env = [(false,eval a X.env)]:=by rfl):PI X tg (.Call (.Name "range" p) [a] [] pos) (MH ta):=by
 intro pins s σ H R I h;refine Call_ (qe I hg hm boot_range (gG (thn (ha pos pins s σ H _ I h) fun us s1 ⟨vs,H1,I1,r1,q1⟩=>?_) hs rfl));obtain ⟨j,e,q1,q2,q⟩:=q1;subst e
 cases r1 with
 | cons r rr =>
   cases rr;obtain ⟨t,rfl⟩:=r;exact call_range_1 (CG I1 (by lia) (by lia) q1 q2 (by simpa using q))
noncomputable def Nm (wi:TI) (g:TG) (tb:TS):TS:=fun D σ H=>wi σ H fun J H1=>∃ W:Nat->Nat->St->Hp->Prop,(∃ m,W 0 m σ H1)/\∀ i m σ H,W i m σ H ->
 (J.stop i H/\D.nx σ H)\/(J.go i H/\∃ N:St->Hp->Prop,(∀ σ' H',N σ' H'->∃ m',m' < m/\W (i+1) m' σ' H')/\∀ x H',J.yld i H x H'->g x σ H' fun σ2 H2=>tb { D with nx:=N,ct:=N,bk:=D.nx } σ2 H2)
noncomputable def pW (fp:List av) (h:bJ):List (av × Obj):=fp.filterMap fun b=>(h.get? b).map fun o=>(b,o)
theorem jN (hb:b∈fp) (e:h.get? b = some o):(b,o)∈pW fp h:=AX.mpr ⟨b,hb,by rw [e];rfl⟩
theorem Al (hp:p∈pW fp h):p.1∈fp/\h.get? p.1 = some p.2:=by
 obtain ⟨b,hb,e⟩:=AX.mp hp
 cases q:h.get? b with
 | none=>rw [q] at e;cases e
 | some o =>
   rw [q] at e;have e':(b,o) = p:=bt e;subst e';exact ⟨hb,q⟩
theorem Inv.pinned (I:Inv X pins σ H s) (hf:∀ b∈fp,jX X pins H b) (ho:∀ b∈fp,∃ o,s.heap.get? b = some o/\∀ v,o.data≠.cell v):Inv X (pins++pW fp s.heap) σ H s :=
 I.pins_of fun p hp=>(aP.mp hp).elim (fun z=>I.pin p (aO _ z)) fun z=>by
  obtain ⟨hb,e⟩:=Al z;obtain ⟨f0,f1,f2,_⟩:=hf p.1 hb;obtain ⟨o,e',d⟩:=ho p.1 hb;rw [e] at e';cases e';exact ⟨e,f0,f1,f2,d⟩
theorem Inv.unpinned (I:Inv X (pins++pl) σ H s):Inv X pins σ H s:=I.pins_of fun p hp=>I.pin p (aO _ (cV _ hp))
theorem CW (hp:PassesOwn (model X.prog X.w) X.A X.env X.xe) (hc:X.calm = true) (hi:PI X tg iter wi) (hg:PG X tg g) (hb:PSs X body tb)
 (hs:∀ x,foldedSetIterable iter X.env x = pure x:=by intro _;rfl):PS X (.For tg iter body [] pos) (Nm wi g tb):=by
 intro pins s σ H D I h;refine wpAny_For (thn (hi pins s σ H _ I h) fun v s1 h1=>thn h1 fun itv s2 h2=>?_) hs;obtain ⟨it,fp,tn,J,H2,e,I2,T,st2,f2,W,⟨m0,w0⟩,turn⟩:=h2;subst e
 -- what stays true of the iterator's objects through the loop
 have stat:∀ {H':Hp},(∀ b∈fp,H' b = none)->∀ b∈fp,jX X pins H' b:=fun hn b hb=>⟨hn b hb,(f2 b hb).2⟩;refine codeAny_forLoop_any (fun n s'=>∃ i σ' H',Inv X pins σ' H' s'/\tn i s'.heap/\(∀ b∈fp,H' b = none)/\W i n σ' H') ?_ m0 ⟨0,σ,H2,I2,st2,fun b hb=>(f2 b hb).1,w0⟩;rintro n s3 ⟨i,σ3,H3,I3,st3,fr3,w3⟩;rcases turn i n σ3 H3 w3 with ⟨stop,qn⟩ | ⟨go,N,hN,step⟩
 . refine ji hp (thn (T.done X rfl rfl rfl hc i pins s3 σ3 H3 X.xe I3 (stat fr3) st3 stop) fun r s4 ⟨hr,I4⟩=>?_);subst hr;exact wpAny_execs_nil ⟨σ3,H3,I4,qn⟩
 . refine ji hp (thn (T.item X rfl rfl rfl hc i pins s3 σ3 H3 X.xe I3 (stat fr3) st3 go) fun r s4 ⟨u,hr,h4⟩=>?_);subst hr;refine ji hp (thn h4 fun _ s5 ⟨x,H5,I5,r5,y5,st5,fr5⟩=>?_);have I5':=I5.pinned (stat fr5) (T.obj _ _ st5);refine ji hp (thn (hg _ s5 σ3 H5 x u _ I5' r5 (step x H5 y5)) fun _ s6 ⟨σ6,H6,I6,q6⟩=>?_);refine ji hp (thn (hb _ s6 σ6 H6 _ I6 q6) fun f s7 q7=>?_)
   have again:∀ {σ7:St} {H7:Hp},Inv X (pins++pW fp s5.heap) σ7 H7 s7->N σ7 H7->∃ m,m < n/\∃ i σ' H',Inv X pins σ' H' s7/\tn i s7.heap/\(∀ b∈fp,H' b = none)/\W i m σ' H':=fun {σ7 H7} I7 n7=>by
    obtain ⟨m',hm,w7⟩:=hN σ7 H7 n7;refine ⟨m',hm,i+1,σ7,H7,I7.unpinned,T.keep _ _ _ st5 fun b hb o e=>(I7.pin (b,o) (aO _ (aO _ (jN hb e)))).1,fun b hb=>?_,w7⟩;obtain ⟨o,e,d⟩:=T.obj _ _ st5 b hb;exact (I7.pin (b,o) (aO _ (aO _ (jN hb e)))).2.1
   cases f with
   | next=>obtain ⟨σ7,H7,I7,n7⟩:=q7;exact again I7 n7
   | cont=>obtain ⟨σ7,H7,I7,n7⟩:=q7;exact again I7 n7
   | brk=>obtain ⟨σ7,H7,I7,q7⟩:=q7;exact ⟨σ7,H7,I7.unpinned,q7⟩
   | ret v=>obtain ⟨x7,σ7,H7,I7,r7,q7⟩:=q7;exact ⟨x7,σ7,H7,I7.unpinned,r7,q7⟩
end
end L2
namespace L2
open PySem PySem.Spec PyProof.Rows
abbrev R2:=V->V->Hp->VK->Prop
noncomputable def OpR (X:Cx) (f:af->af->Sem af) (r:R2):Prop :=
 ∀ (pins:List (av × Obj)) (s:ai) (σ:St) (H:Hp) (x y:V) (v u:af) (Q:VK),Inv X pins σ H s->RelV x v->RelV y u->r x y H Q ->
  wpAny (model X.prog X.w) X.A (f v u) (EP X pins σ Q) X.xe s
noncomputable def UnR (X:Cx) (f:af->Sem af) (r:V->Hp->VK->Prop):Prop :=
 ∀ (pins:List (av × Obj)) (s:ai) (σ:St) (H:Hp) (x:V) (v:af) (Q:VK),Inv X pins σ H s->RelV x v->r x H Q ->
  wpAny (model X.prog X.w) X.A (f v) (EP X pins σ Q) X.xe s
noncomputable def cU (X:Cx) (f:af) (r:List V->Hp->VK->Prop):Prop :=
 ∀ (pins:List (av × Obj)) (s:ai) (σ:St) (H:Hp) (xs:List V) (us:List af) (Q:VK),Inv X pins σ H s->Vals xs us->r xs H Q ->
  wpAny (model X.prog X.w) X.A (call f us) (EP X pins σ Q) X.xe s
noncomputable def NW (X:Cx) (r:V->Hp->(Bool->Hp->Prop)->Prop):Prop :=
 ∀ (pins:List (av × Obj)) (s:ai) (σ:St) (H:Hp) (x:V) (v:af) (Q:Bool->Hp->Prop),Inv X pins σ H s->RelV x v->r x H Q ->
  wpAny (model X.prog X.w) X.A (truthy v) (TP X pins σ Q) X.xe s
noncomputable def tOp (r:R2) (ta tb:TE):TE:=fun σ H Q=>ta σ H fun x H1=>tb σ H1 fun y H2=>r x y H2 Q
noncomputable def tUn (r:V->Hp->VK->Prop) (ta:TE):TE:=fun σ H Q=>ta σ H fun x H1=>r x H1 Q
noncomputable def rI (C:Int->Int->Prop) (g:Int->Int->V):R2:=fun x y H Q=>∃ i j,x = .int i/\y = .int j/\C i j/\Q (g i j) H
noncomputable def rI0 (g:Int->Int->V):R2:=fun x y H Q=>∃ i j,x = .int i/\y = .int j/\Q (g i j) H
noncomputable def rU (g:Int->V):V->Hp->VK->Prop:=fun x H Q=>∃ i,x = .int i/\Q (g i) H
section
variable {X:Cx} {a b c:aE} {ta tb tc:TE} {pos:Pos}
theorem KU (ha:PE X a ta) (hb:PE X b tb) {pins:List (av × Obj)} {s:ai} {σ:St} {H:Hp} {R:V->V->Hp->Prop} (I:Inv X pins σ H s)
 (h:ta σ H fun x H1=>tb σ H1 fun y H2=>R x y H2) {Q:af->ai->Prop} {f:af->af->Sem af}
 (hf:∀ v u s2 x y H2,Inv X pins σ H2 s2->RelV x v->RelV y u->R x y H2->wpAny (model X.prog X.w) X.A (f v u) Q X.xe s2) :
 wpAny (model X.prog X.w) X.A (eval a X.env) (fun v s₁=>wpAny (model X.prog X.w) X.A (eval b X.env) (fun u s₂=>wpAny (model X.prog X.w) X.A (f v u) Q X.xe s₂) X.xe s₁) X.xe s:=by
 refine thn (ha pins s σ H _ I h) fun v s1 zz=>?_;obtain ⟨x,H1,I1,r1,q1⟩:=zz;refine thn (hb pins s1 σ H1 _ I1 q1) fun u s2 zz=>?_;obtain ⟨y,H2,I2,r2,q2⟩:=zz;exact hf v u s2 x y H2 I2 r1 r2 q2
theorem uW {op:xC} {r:R2} (ho:OpR X (binaryOp op) r) (ha:PE X a ta) (hb:PE X b tb):PE X (.BinOp a op b pos) (tOp r ta tb):=by
 intro pins s σ H Q I h;exact wpAny_BinOp (KU ha hb I h fun v u s2 x y H2 I2 rx ry q=>ho pins s2 σ H2 x y v u Q I2 rx ry q)
theorem Mg (ho:UnR X (unaryOp op) r) (ha:PE X a ta):PE X (.UnaryOp op a pos) (tUn r ta):=by
 intro pins s σ H Q I h;exact UnaryOp_ (thn (ha pins s σ H _ I h) fun v s1 ⟨x,H1,I1,r1,q1⟩=>ho pins s1 σ H1 x v Q I1 r1 q1)
theorem opI {f:af->af->Sem af} {C:Int->Int->Prop} {g:Int->Int->Int}
 (rule:∀ (i j:Int) (t u:Tok) (s:ai) (Q:af->ai->Prop) (E:af->ai->Prop),C i j->Q (.int (g i j) s.toks) { s with toks:=s.toks+1 }->wpAny (model X.prog X.w) X.A (f (.int i t) (.int j u)) Q E s) :
 OpR X f (rI C fun i j=>.int (g i j)):=by
 intro pins s σ H x y v u Q I rx ry h;obtain ⟨i,j,rfl,rfl,hc,q⟩:=h;obtain ⟨t,rfl⟩:=rx;obtain ⟨t',rfl⟩:=ry;exact rule i j t t' s _ _ hc ⟨.int (g i j),H,I.tok _,⟨_,rfl⟩,q⟩
theorem Mu {f:af->af->Sem af} {g:Int->Int->Int}
 (rule:∀ (i j:Int) (t u:Tok) (s:ai) (Q:af->ai->Prop) (E:af->ai->Prop),Q (.int (g i j) s.toks) { s with toks:=s.toks+1 }->wpAny (model X.prog X.w) X.A (f (.int i t) (.int j u)) Q E s) :
 OpR X f (rI0 fun i j=>.int (g i j)):=by
 intro pins s σ H x y v u Q I rx ry h;obtain ⟨i,j,rfl,rfl,q⟩:=h;obtain ⟨t,rfl⟩:=rx;obtain ⟨t',rfl⟩:=ry;exact rule i j t t' s _ _ ⟨.int (g i j),H,I.tok _,⟨_,rfl⟩,q⟩
theorem Mv {f:af->af->Sem af} {g:Int->Int->Bool}
 (rule:∀ (i j:Int) (t u:Tok) (s:ai) (Q:af->ai->Prop) (E:af->ai->Prop),Q (.bool (g i j)) s->wpAny (model X.prog X.w) X.A (f (.int i t) (.int j u)) Q E s) :
 OpR X f (rI0 fun i j=>.bl (g i j)):=by
 intro pins s σ H x y v u Q I rx ry h;obtain ⟨i,j,rfl,rfl,q⟩:=h;obtain ⟨t,rfl⟩:=rx;obtain ⟨t',rfl⟩:=ry;exact rule i j t t' s _ _ ⟨.bl (g i j),H,I,rfl,q⟩
theorem JS:OpR X (binaryOp .Add) (rI0 fun i j=>.int (i+j)):=Mu fun _ _ _ _ _ _ _ q=>add_int q
theorem JM:OpR X (binaryOp .Sub) (rI0 fun i j=>.int (i - j)):=Mu fun _ _ _ _ _ _ _ q=>sub_int q
theorem JO:OpR X (binaryOp .Mod) (rI (fun _ j=>0 < j) fun i j=>.int (i % j)):=opI fun i j _ _ _ _ _ hc q=>by
 have h1:(0:Int) < j:=hc;exact mod_int' (by lia) (by rw [Int.fmod_eq_emod_of_nonneg i (by lia)];exact q)
theorem unI {f:af->Sem af} {g:Int->Int}
 (rule:∀ (i:Int) (t:Tok) (s:ai) (Q:af->ai->Prop) (E:af->ai->Prop),Q (.int (g i) s.toks) { s with toks:=s.toks+1 }->wpAny (model X.prog X.w) X.A (f (.int i t)) Q E s) :
 UnR X f (rU fun i=>.int (g i)):=by
 intro pins s σ H x v Q I rx h;obtain ⟨i,rfl,q⟩:=h;obtain ⟨t,rfl⟩:=rx;exact rule i t s _ _ ⟨.int (g i),H,I.tok _,⟨_,rfl⟩,q⟩
theorem IL:UnR X (unaryOp .USub) (rU fun i=>.int (-i)):=unI fun _ _ _ _ _ q=>neg_int q
end
noncomputable def Nu:V->V->Bool
 | .non,.non=>true | .non,.int _=>true | .int _,.non=>true | .non,.bl _=>true | .bl _,.non=>true | .non,.str _=>true | .str _,.non=>true
 | .int _,.int _=>true | .bl _,.bl _=>true | .str _,.str _=>true | .byt _,.byt _=>true
 | .int _,.str _=>true | .str _,.int _=>true | .bl _,.str _=>true | .str _,.bl _=>true
 | _,_=>false
noncomputable def rEq:R2:=fun x y H Q=>Nu x y = true/\Q (.bl (decide (x = y))) H
theorem Hi:decide (V.int i = V.int j) = (i == j):=by
 rw [dF];simp
theorem KD:decide (V.bl i = V.bl j) = (i == j):=by
 rw [dF];simp
theorem Hh:decide (V.str i = V.str j) = (i == j):=by
 rw [dF];simp
theorem Hj:decide (V.byt i = V.byt j) = (i.toList == j.toList):=by
 rw [dF];cases i;cases j;simp
section
variable {X:Cx} {a b c:aE} {ta tb tc:TE} {pos:Pos}
theorem fB (I:Inv X pins σ H s) (q:Q (.bl k) H) (e:k = k'):EP X pins σ Q (.bool k') s:=by
 subst e;exact ⟨.bl k,H,I,rfl,q⟩
theorem Mr:OpR X (compareOp .Eq) rEq:=by
 intro pins s σ H x y v u Q I rx ry h;obtain ⟨hs,q⟩:=h
 cases x with
 | non =>
   cases rx
   cases y with
   | non=>cases ry;exact PySem.EqNone.eq_none_none (fB I q (by simp))
   | bl j=>cases ry;exact PySem.EqNone.eq_none_bool (fB I q (by simp))
   | int j=>obtain ⟨t',rfl⟩:=ry;exact PySem.EqNone.eq_none_int (fB I q (by simp))
   | str j=>obtain ⟨t',rfl⟩:=ry;exact PySem.EqNone.eq_none_str (fB I q (by simp))
   | _=>exact absurd (show false = true from hs) aq
 | bl i =>
   cases rx
   cases y with
   | non=>cases ry;exact PySem.EqNone.eq_bool_none (fB I q (by simp))
   | bl j=>cases ry;exact eq_bool (fB I q KD)
   | str j=>obtain ⟨t',rfl⟩:=ry;exact PySem.EqMixed.eq_bool_str (fB I q (by simp))
   | _=>exact absurd (show false = true from hs) aq
 | int i =>
   obtain ⟨t,rfl⟩:=rx
   cases y with
   | non=>cases ry;exact PySem.EqNone.eq_int_none (fB I q (by simp))
   | int j=>obtain ⟨t',rfl⟩:=ry;exact eq_int (fB I q Hi)
   | str j=>obtain ⟨t',rfl⟩:=ry;exact PySem.EqMixed.eq_int_str (fB I q (by simp))
   | _=>exact absurd (show false = true from hs) aq
 | str i =>
   obtain ⟨t,rfl⟩:=rx
   cases y with
   | non=>cases ry;exact PySem.EqNone.eq_str_none (fB I q (by simp))
   | bl j=>cases ry;exact PySem.EqMixed.eq_str_bool (fB I q (by simp))
   | int j=>obtain ⟨t',rfl⟩:=ry;exact PySem.EqMixed.eq_str_int (fB I q (by simp))
   | str j=>obtain ⟨t',rfl⟩:=ry;exact eq_str (fB I q Hh)
   | _=>exact absurd (show false = true from hs) aq
 | byt i =>
   obtain ⟨t,rfl⟩:=rx
   cases y with
   | byt j=>obtain ⟨t',rfl⟩:=ry;exact PySem.W.eq_bytes (fB I q Hj)
   | _=>exact absurd (show false = true from hs) aq
 | _=>cases y<;>exact absurd (show false = true from hs) aq
theorem Mp:OpR X (compareOp .LtE) (rI0 fun i j=>.bl (decide (i<=j))):=Mv fun _ _ _ _ _ _ _ q=>le_int q
theorem Mq:OpR X (compareOp .Gt) (rI0 fun i j=>.bl (decide (j < i))):=Mv fun _ _ _ _ _ _ _ q=>gt_int q
theorem Ak:OpR X (compareOp .In) (fun x y H Q=>∃ i j,x = .str i/\y = .str j/\Q (.bl (!(pB j i 0 j.length 1).isEmpty)) H):=by
 intro pins s σ H x y v u Q I rx ry h;obtain ⟨i,j,rfl,rfl,q⟩:=h;obtain ⟨t,rfl⟩:=rx;obtain ⟨t',rfl⟩:=ry;exact in_str (fB I q rfl)
theorem OpR.or {f:af->af->Sem af} {r r':R2} (h:OpR X f r) (h':OpR X f r'):OpR X f (fun x y H Q=>r x y H Q\/r' x y H Q):=by
 intro pins s σ H x y v u Q I rx ry q;rcases q with q | q
 . exact h pins s σ H x y v u Q I rx ry q
 . exact h' pins s σ H x y v u Q I rx ry q
theorem Gx {op:CmpOp} {r:R2} (ho:OpR X (compareOp op) r) (ha:PE X a ta) (hb:PE X b tb) (hm:behindInMarks op b = false):PE X (.Compare a [op] [b] pos) (tOp r ta tb):=by
 intro pins s σ H Q I h;exact wpAny_Compare1 (KU ha hb I h fun v u s2 x y H2 I2 rx ry q=>ho pins s2 σ H2 x y v u Q I2 rx ry q) hm
noncomputable def LH (t:TE):TT:=fun σ H Q=>t σ H fun x H'=>∃ k,x = .bl k/\Q k H'
theorem Gp (ho:OpR X (compareOp op) r) (ha:PE X a ta) (hb:PE X b tb) (hm:behindInMarks op b = false):PT X (.Compare a [op] [b] pos) (LH (tOp r ta tb)):=by
 intro pins s σ H Q I h
 refine wpAny_isTrue_Compare1 (thn (ha pins s σ H _ I h) fun v s1 ⟨x,H1,I1,r1,q1⟩=>thn (hb pins s1 σ H1 _ I1 q1) fun u s2 ⟨y,H2,I2,r2,q2⟩ =>
  thn (ho pins s2 σ H2 x y v u _ I2 r1 r2 q2) fun c s3 ⟨z,H3,I3,r3,k,e,q3⟩=>?_) hm
 subst e;cases r3;exact fE ⟨H3,I3,q3⟩
noncomputable def La (K:PySem.W.Frag) (x:V) (H:Hp) (k:Bool):Prop :=
 match x with
 | .non=>k = false
 | .bl b=>k = b
 | .int i=>k = (i != 0)
 | .str y=>y.length<=sizeLine/\k = ((y.length:Int) != 0)
 | .byt y=>y.size<=sizeLine/\k = ((y.size:Int) != 0)
 | .ref p=>(∃ xs,SqL K H p xs/\k = !xs.isEmpty)\/(∃ xs,SqT K H p xs/\k = !xs.isEmpty)\/∃ kvs,H p = some (.dK kvs)/\k = !kvs.isEmpty
 | _=>False
theorem wZ {κ:Type} {kvs:List (κ × V)} {vs:List (κ × af)} (r:KV kvs vs):(!vs.isEmpty) = !kvs.isEmpty:=by
 cases r<;>rfl
theorem qh {xs:List V} {its:List af} (r:Vals xs its):(!its.toArray.isEmpty) = !xs.isEmpty:=by
 cases r<;>simp
theorem lL:(sizeLine:Nat) < 2 ^ 63:=by rw [cj];decide
theorem IP:NW X (fun x H Q=>∃ k,La X.K x H k/\Q k H):=by
 intro pins s σ H x v Q I rx h;obtain ⟨k,e,q⟩:=h;have hl:=lL;have hs:sizeLine = 16777216:=cj
 cases x with
 | non =>
   cases rx;have e':k = false:=e;subst e'
   exact truthy_none ⟨H,I,q⟩
 | bl b =>
   cases rx;have e':k = b:=e;subst e'
   exact fE ⟨H,I,q⟩
 | int i =>
   obtain ⟨t,rfl⟩:=rx;have e':k = (i != 0):=e;subst e'
   exact PySem.P.truthy_int ⟨H,I,q⟩
 | str y =>
   obtain ⟨t,rfl⟩:=rx;obtain ⟨hy,e'⟩:y.length<=sizeLine/\k = ((y.length:Int) != 0):=e;subst e'
   exact PySem.P.truthy_str (by lia) ⟨H,I.tok _,q⟩
 | byt y =>
   obtain ⟨t,rfl⟩:=rx;obtain ⟨hy,e'⟩:y.size<=sizeLine/\k = ((y.size:Int) != 0):=e;subst e'
   exact PySem.W.truthy_bytes (by lia) ⟨H,I.tok _,q⟩
 | ref p =>
   cases rx;have e':(∃ xs,SqL X.K H p xs/\k = !xs.isEmpty)\/(∃ xs,SqT X.K H p xs/\k = !xs.isEmpty)\/∃ kvs,H p = some (.dK kvs)/\k = !kvs.isEmpty:=e;rcases e' with ⟨xs,hx,e'⟩ | ⟨xs,hx,e'⟩ | ⟨kvs,hx,e'⟩
   . subst e';obtain ⟨its,r,pl,hz⟩:=I.list hx;have hlen:=r.length;exact wpAny_truthy_list pl.isList (by simp only [aD];lia) ⟨H,I.tok _,by rw [qh r];exact q⟩
   . subst e';obtain ⟨its,r,pl,hz⟩:=I.tuple hx;have hlen:=r.length;exact truthy_tuple pl (by simp only [aD];lia) ⟨H,I.tok _,by rw [qh r];exact q⟩
   . subst e';obtain ⟨hz,hS,vs,r,m⟩:kvs.length<=sizeLine/\(p == sysModules) = false/\∃ vs,KV kvs vs/\s.heap.DictOf (sX X.prog X.w) p vs:=I.hok p _ hx;have hlen:kvs.length = vs.length:=Paired.length r
     exact wpAny_truthy_dict hS m (by lia) ⟨H,I.tok _,by rw [wZ r];exact q⟩
 | _=>exact (show False from e).elim
theorem pS (ha:PE X a ta) (he:∀ whole,isTrue a X.env whole = (do let v <- whole;standAt a.pos;holding [v] (truthy v))) :
 PT X a (fun σ H Q=>ta σ H fun x H'=>∃ k,La X.K x H' k/\Q k H'):=by
 intro pins s σ H Q I h;exact isTrue_plain (thn (ha pins s σ H _ I h) fun v s1 ⟨x,H1,I1,r1,q1⟩=>IP pins s1 σ H1 x v Q I1 r1 q1) (he _)
theorem wL:OpR X (binaryOp .Add) (fun x y H Q=>∃ i j,x = .str i/\y = .str j/\i.length+j.length<=sizeLine/\Q (.str (i++j)) H):=by
 intro pins s σ H x y v u Q I rx ry h;obtain ⟨i,j,rfl,rfl,hz,q⟩:=h;obtain ⟨t,rfl⟩:=rx;obtain ⟨t',rfl⟩:=ry;exact add_str (fun t' tk=>⟨.str (i++j),H,I.tok _,⟨_,rfl⟩,q⟩) hz
theorem vals1 (r:Vals [x] us):∃ u,us = [u]/\RelV x u:=by
 cases r with
 | cons r1 r2=>cases r2;exact ⟨_,rfl,r1⟩
theorem vals2 (r:Vals [x,y] us):∃ u w',us = [u,w']/\RelV x u/\RelV y w':=by
 cases r with
 | cons r1 r2 =>
   cases r2 with
   | cons r3 r4=>cases r4;exact ⟨_,_,rfl,r1,r3⟩
theorem AG:cU X (.type "int") (fun xs H Q=>(∃ i,xs = [.int i]/\Q (.int i) H)\/∃ k,xs = [.bl k]/\Q (.int (if k then 1 else 0)) H):=by
 intro pins s σ H xs us Q I r h;rcases h with ⟨i,rfl,q⟩ | ⟨k,rfl,q⟩
 . obtain ⟨u,rfl,t,rfl⟩:=vals1 r;exact call_int_int ⟨.int i,H,I,⟨_,rfl⟩,q⟩
 . obtain ⟨u,rfl,r1⟩:=vals1 r;cases r1;exact call_int_bool ⟨.int (if k then 1 else 0),H,I.tok _,⟨_,rfl⟩,q⟩
theorem ua:cU X (.type "str") (fun xs H Q=>∃ i,xs = [.int i]/\i.natAbs.log2 < 1920/\Q (.str (toString i)) H):=by
 intro pins s σ H xs us Q I r h;obtain ⟨i,rfl,hz,q⟩:=h;obtain ⟨u,rfl,t,rfl⟩:=vals1 r;exact PySem.P.str_of_int hz ⟨.str _,H,I.tok _,⟨_,rfl⟩,q⟩
end
end L2
namespace L2
open PySem PySem.Spec PyProof.Rows
structure NY (h:bJ) (x dx C:av) (mA:Str->Option af):Prop where
 obj:h.get? x = some (PySem.W.instObj C dx)
 ns:h.Ns1 dx mA
 ne:dx≠x
section
variable {prog:aM} {w:bj} {A:ba} {E:af->ai->Prop} {s:ai} {K:PySem.W.Frag} {x dx C f:av} {mA:Str->Option af} {name:Str} {v:af}
end
section
variable {P:aM} {w:bj} {H H':Hp} {h h':bJ} {a C dx:av} {fs fs':List (Str × V)}
end
structure Cls (K:PySem.W.Frag) (C:av):Prop where
 pg:PySem.W.plainGet K C Str.empty = true
 hd:PySem.W.hasDictIn K C = true
 po:PySem.W.plainOver K C = true
 sa:PySem.W.findIn K (.ref C) "__setattr__" = some (some (.builtin "object.__setattr__"))
structure Con (K:PySem.W.Frag) (C:av) (f:Str) (v:V) (u:af):Prop where
 at_:PySem.W.findIn K (.ref C) f = some (some u)
 rel:RelV v u
 get:PySem.W.specialIn K u "__get__" = some none
 cp:PySem.W.copiedNames.contains f = false
structure Meth (K:PySem.W.Frag) (C:av) (m:Str) (f:av):Prop where
 at_:PySem.W.findIn K (.ref C) m = some (some (.ref f))
 fn:PySem.W.isFn K (.ref f) = true
 kp:PySem.W.keepIn K (.ref f) = true
section
variable {X:Cx} {pins:List (av × Obj)} {σ:St} {H:Hp} {s:ai} {a C dx:av} {fs:List (Str × V)} {f:Str} {v:V} {A:ba} {E:af->ai->Prop}
end
section
variable {X:Cx} {o e value:aE} {f:Str} {pos pos' tpos:Pos} {ta tv:TE}
end
section
variable {X:Cx} {pins:List (av × Obj)} {σ:St} {H:Hp} {s:ai} {A:ba} {E:af->ai->Prop} {Q:af->ai->Prop} {c:af} {b:Bool}
inductive qu (K:PySem.W.Frag) (H:Hp):V->af->Prop where
 | non:qu K H .non (.type "NoneType")
 | bl (x:Bool):qu K H (.bl x) (.type "bool")
 | int (i:Int):qu K H (.int i) (.type "int")
 | str (x:Str):qu K H (.str x) (.type "str")
 | flt (x:UInt64):qu K H (.flt x) (.type "float")
 | lst {a:av} {xs:List V} (e:H a = some (.lst xs)):qu K H (.ref a) (.type "list")
 | frz {a:av} {o:Obj} {xs:List V} (e:H a = some (.frz o (.lst xs))):qu K H (.ref a) (.type "list")
 | tup {a:av} {xs:List V} (e:H a = some (.tup xs)):qu K H (.ref a) (.type "tuple")
 | dK {a:av} {kvs:List (Key × V)} (e:H a = some (.dK kvs)):qu K H (.ref a) (.type "dict")
 | dT {a:av} {kvs:List (List Key × V)} (e:H a = some (.dT kvs)):qu K H (.ref a) (.type "dict")
 | ins {a C dx:av} {fs:List (Str × V)} (e:H a = some (.ins C dx fs)) (cl:Cls K C) (ha:PySem.W.findIn K (.ref C) "__class__" = some (some (.builtin "object.__class__")))
    (hn:PySem.W.specialIn K (.builtin "object.__class__") "__get__" = some (some (.builtin "getset_descriptor.__get__"))) (htk:PySem.W.takesIn K (.builtin "object.__class__") = some true)
    (hm:PySem.W.mroIn K C (.type "object") = some true):qu K H (.ref a) (.ref C)
end
end L2
namespace L2
open PySem PySem.Spec PyProof.Rows
structure km (k:Nat) (A:ba):Prop where
 hd:A.handled = none
 dp:A.depth+3 * k+5 < recursionLimit
 un:A.units+16 * k+200 < cLine
theorem km.deeper {k:Nat} {A:ba} (r:km (k+1) A) (env:Env):km k (A.deeper env) :=
 ⟨r.hd,by have:=r.dp;show A.depth+1+3 * k+5 < _;lia,by have:=r.un;show A.units+3+16 * k+200 < _;lia⟩
theorem km.depth {k:Nat} {A:ba} (r:km k A):A.depth < recursionLimit:=by have:=r.dp;lia
noncomputable def IS:TA:=fun _ H Q=>Q [] H
noncomputable def xN (ta:TE) (tr:TA):TA:=fun σ H Q=>ta σ H fun x H1=>tr σ H1 fun xs H2=>Q (x::xs) H2
section
variable {X:Cx} {e:aE} {es:List aE} {te:TE} {t:TA} {pos:Pos}
theorem pX:PA X [] IS:=fun _ _ _ _ H Q I h=>Calls.spliced_nil ⟨[],H,I,.nil,h⟩
theorem jL (ha:PE X e te) (hr:PA X es t) (hs:starEach (e::es) X.env = (false,eval e X.env)::starEach es X.env:=by rfl):PA X (e::es) (xN te t):=by
 intro pos pins s σ H Q I h;rw [hs];show wpAny _ _ (spliced ((false,eval e X.env)::backTo pos (starEach es X.env))) _ _ s;refine Calls.spliced_cons (thn (ha pins s σ H _ I h) fun u s1 ⟨x,H1,I1,r1,q1⟩=>?_);exact thn (hr pos pins s1 σ H1 _ I1 q1) fun us s2 ⟨xs,H2,I2,r2,q2⟩=>⟨x::xs,H2,I2,.cons r1 r2,q2⟩
noncomputable def Nd (t:TA):TE:=fun σ H Q=>t σ H fun xs H1=>xs.length<=sizeLine/\∀ p,H1 p = none->Q (.ref p) (upd H1 p (.tup xs))
noncomputable def Nk (t:TA):TE:=fun σ H Q=>t σ H fun xs H1=>xs.length<=sizeLine/\∀ p,H1 p = none->Q (.ref p) (upd H1 p (.lst xs))
theorem JB (h:PA X es t):PE X (.Tuple es x1 pos) (Nd t):=by
 intro pins s σ H Q I hq;refine wpAny_Tuple_spliced (thn (h pos pins s σ H _ I hq) fun us s1 ⟨xs,H1,I1,r,z,q⟩=>⟨by rw [<- r.length];exact z,?_⟩);have hf:H1 s1.heap.objs.size = none:=I1.hok.fresh (aB _);refine ⟨.ref s1.heap.objs.size,upd H1 s1.heap.objs.size (.tup xs),I1.laid (t':=s1.toks) (fun b u e=>ah _ e) (aB _) ?_,rfl,q _ hf⟩;exact ⟨z,us,r,⟨_,aF _ rfl,rfl,_,rfl⟩⟩
theorem Dg (h:PA X es t):PE X (.List es pos) (Nk t):=by
 intro pins s σ H Q I hq;refine wpAny_List_spliced (thn (h pos pins s σ H _ I hq) fun us s1 ⟨xs,H1,I1,r,z,q⟩=>⟨by rw [<- r.length];exact z,?_⟩);have hf:H1 s1.heap.objs.size = none:=I1.hok.fresh (aB _);refine ⟨.ref s1.heap.objs.size,upd H1 s1.heap.objs.size (.lst xs),I1.laid (t':=s1.toks) (fun b u e=>ah _ e) (aB _) ?_,rfl,q _ hf⟩;exact ⟨z,us,0,r,aF _ rfl⟩
end
abbrev Sp:=List V->Hp->VK->XK->Prop
abbrev CXT:=List Env->Hp->ai->XK->af->ai->Prop
structure ug (P:aM) (w:bj) (K:PySem.W.Frag) (mg:Str->Option af) (base:bJ) (A:ba) (outer:List Env) (s:ai) (H:Hp):Prop where
 frames:A.frames = some outer
 mod:Mod K mg base
 bs:∀ b o,base.get? b = some o->s.heap.get? b = some o/\H b = none
 bsz:base.objs.size<=s.heap.objs.size
 funs:s.heap.FunFrames base outer
 frf:∀ b∈frs outer,H b = none
 hok:HOk P w H s.heap
 bare:lX s.gens
noncomputable def CE (outer:List Env) (P:aM) (w:bj) (H:Hp) (s:ai) (Q:VK) (u:af) (s':ai):Prop :=
 ∃ v H',s'.os = s.os/\lX s'.gens/\Un (frs outer) [] H H' s.heap s'.heap/\HOk P w H' s'.heap/\RelV v u/\Q v H'
noncomputable def CR (CX:CXT) (outer:List Env) (P:aM) (w:bj) (H:Hp) (s:ai) (Q:VK) (E:XK) (r:xB) (s':ai):Prop :=
 match r with
 | .ok (.ret u)=>CE outer P w H s Q u s'
 | .ok _=>False
 | .error e=>CX outer H s E e s'
structure lq (P:aM) (w:bj) (K:PySem.W.Frag) (mg:Str->Option af) (base:bJ) (CX:CXT) (k:Nat) (f:av) (fd:dW) (ps:List Str) (sp:Sp):Prop where
 len:∀ vs H Q E,sp vs H Q E->vs.length = ps.length
 run:∀ (A:ba) (outer:List Env) (s:ai) (H:Hp) (args:Args) (us:List af) (vs:List V) (Q:VK) (E:XK),km k A->ug P w K mg base A outer s H->BindsTo s fd args (ps.zip us)->Vals vs us->sp vs H Q E ->
  codeAny (model P w) A (.call (.ref f) args) (CR CX outer P w H s Q E) s
section
variable {X:Cx} {pins:List (av × Obj)} {σ:St} {H:Hp} {s s':ai}
theorem Inv.env0 (I:Inv X pins σ H s):ug X.prog X.w X.K X.mg X.base X.A X.stack s H :=
 ⟨I.ok.frames,I.ok.mod,I.bs,bc I.ok.bsz I.sz,I.stack,I.stkFree,I.hok,I.bare⟩
theorem Inv.after (I:Inv X pins σ H s) (h:CE X.stack X.prog X.w H s Q u s'):EP X pins σ Q u s':=by
 obtain ⟨v,H',os,bare,un,hok,r,q⟩:=h;obtain ⟨hh,g,d,t,os'⟩:=s';obtain rfl:os' = s.os:=os;exact ⟨v,H',I.call (h':=hh) (g':=g) (d':=d) (t':=t) (ch:=[]) un hok bare (fun b z=>absurd z (by simp)),r,q⟩
end
noncomputable def LM (sp:Sp) (dvs:List V) (E:XK) (t:TA):TE:=fun σ H Q=>t σ H fun vs H1=>sp (vs++dvs) H1 Q E
noncomputable def Binds (K:PySem.W.Frag) (fd:dW) (ps:List Str) (ds:List af):Prop :=
 ∀ (s:ai) (us:List af),K.In s.heap->(us++ds).length = ps.length->BindsTo s fd ⟨us,[]⟩ (ps.zip (us++ds))
theorem Binds.all {K:PySem.W.Frag} {fd:dW} {ps:List Str} (h:∀ us:List af,us.length = ps.length->bindArgs fd ⟨us,[]⟩ = pure (ps.zip us)):Binds K fd ps []:=fun s us _ hl=>by
 rw [bS] at hl ⊢;exact .of_eq (h us hl)
noncomputable def Passes (CX:CXT) (X:Cx) (E:XK):Prop:=∀ (pins:List (av × Obj)) (σ:St) (H:Hp) (s:ai) (e:af) (s':ai),Inv X pins σ H s->CX X.stack H s E e s'->X.xe e s'
section
variable {X:Cx} {CX:CXT} {k:Nat} {f C:av} {fd:dW} {ps:List Str} {sp:Sp} {dvs:List V} {ds:List af} {E:XK} {x m:Str} {p pos apos:Pos} {e o:aE} {es:List aE} {ta:TE} {t:TA}
theorem Jh (F:lq X.prog X.w X.K X.mg X.base CX k f fd ps sp) (hr:km k X.A) (hb:Binds X.K fd ps ds) (hd:Vals dvs ds) (hx:Passes CX X E)
 (I:Inv X pins σ H s) (r:Vals vs us) (h:sp (vs++dvs) H Q E):wpAny (model X.prog X.w) X.A (call (.ref f) us) (EP X pins σ Q) X.xe s:=by
 have r2:Vals (vs++dvs) (us++ds):=r.append hd;have hl:(us++ds).length = ps.length:=by rw [<- r2.length];exact F.len _ _ _ _ h
 refine Le (lT (F.run X.A X.stack s H ⟨us,[]⟩ (us++ds) (vs++dvs) Q E hr I.env0 (hb s us I.kIn hl) r2 h) fun r s' hq=>?_)
 cases r with
 | error e=>exact hx pins σ H s e s' I hq
 | ok fl =>
   cases fl with
   | ret u=>exact I.after hq
   | next=>exact cB hq
   | brk=>exact cB hq
   | cont=>exact cB hq
theorem ym (F:lq X.prog X.w X.K X.mg X.base CX k f fd ps sp) (hr:km k X.A) (hg:Gl X x) (hm:X.mg x = some (.ref f)) (hk:PySem.W.keepIn X.K (.ref f) = true) (hb:Binds X.K fd ps ds) (hd:Vals dvs ds) (hx:Passes CX X E)
 (ha:PA X (e::es) t) (hdb:(x == ("__debug__":Str)) = false:=by decide) (he:starEach (e::es) X.env = (false,eval e X.env)::starEach es X.env:=by rfl) (hpl:(backTo pos (starEach es X.env)).any (·.1) = false:=by rfl) :
 PE X (.Call (.Name x p) (e::es) [] pos) (LM sp dvs E t):=by
 intro pins s σ H Q I h;refine gq (tu I hg hm ?_ hdb);refine PySem.W.callWith_K (h₀:=X.base) I.ok.mod.kin hk (thn (ha pos pins s σ H _ I h) fun us s1 ⟨vs,H1,I1,r,q⟩=>⟨I1.kIn,?_⟩) he hpl;exact Jh F hr hb hd hx I1 r q
structure Mk (K:PySem.W.Frag) (C f:av):Prop where
 makes:PySem.W.makesIn K C = true
 init:PySem.W.findIn K (.ref C) "__init__" = some (some (.ref f))
 fn:PySem.W.isFn K (.ref f) = true
 kp:PySem.W.keepIn K (.ref C) = true
end
section
variable {X:Cx} {CX:CXT} {k:Nat} {f C:av} {fd:dW} {ps ks:List Str} {sp:Sp} {E:XK} {x m:Str} {p pos apos kpos:Pos} {e o:aE} {es:List aE} {kws:List jz} {te ta:TE} {t tk:TA} {nm:Option Str}
structure NX (K:PySem.W.Frag) (fd:dW) (ps ks:List Str) (g:List af->List af->List af) (gV:List V->List V->List V):Prop where
 to:∀ (s:ai) (us ws:List af),K.In s.heap->(g us ws).length = ps.length->BindsTo s fd ⟨us,ks.zip ws⟩ (ps.zip (g us ws))
 rel:∀ {vs:List V} {us:List af} {zs:List V} {ws:List af},Vals vs us->Vals zs ws->Vals (gV vs zs) (g us ws)
variable {g:List af->List af->List af} {gV:List V->List V->List V}
end
structure mR (N P:List Str) (sc:dS):Prop where
 kind:sc.kind = .function
 co:sc.isCoroutine = false
 gen:sc.isGenerator = false
 nd:N.Nodup
 pre:N.take P.length = P
 par:∀ x∈P,sc.names.lookup x = some .local\/sc.names.lookup x = some .cell
 nofree:∀ y∈sc.names,y.2≠.free
theorem rM {kindOf:Str->Option jZ} {x:Str}:∀ {binds:List (Str × af)} {m:Str->Option af},(∀ v,(x,v)∉binds)->bindL kindOf binds m x = m x
 | [],_,_=>rfl
 | (n,v)::r,m,h=>by
   unfold bindL;rw [rM fun w hw=>h w (au _ hw)];split
   . have:x≠n:=by rintro rfl;exact h v ay
     simp [this]
   . rfl
theorem rO {kindOf:Str->Option jZ} {x:Str}:∀ {binds:List (Str × af)} {m:Str->Option af},(∀ v,(x,v)∉binds)->bindC kindOf binds m x = m x
 | [],_,_=>rfl
 | (n,v)::r,m,h=>by
   unfold bindC;rw [rO fun w hw=>h w (au _ hw)];split
   . rfl
   . have:x≠n:=by rintro rfl;exact h v ay
     simp [this]
theorem rN {kindOf:Str->Option jZ} {x:Str} {v:af}:∀ {P:List Str} {vs:List af} {i:Nat} {m:Str->Option af},P.Nodup->P[i]? = some x->vs[i]? = some v->kindOf x = some .local ->
 bindL kindOf (P.zip vs) m x = some v
 | [],_,_,_,_,h,_,_=>by simp at h
 | _::_,[],_,_,_,_,h,_=>by simp at h
 | p::P,w::vs,0,m,nd,h1,h2,hk=>by
   simp at h1 h2;subst h1;subst h2;show bindL kindOf ((p,w)::P.zip vs) m p = _;unfold bindL;rw [rM fun v hv=>(bZ.mp nd).1 (iu hv).1,if_pos hk]
   simp
 | p::P,w::vs,i+1,m,nd,h1,h2,hk=>by
   show bindL kindOf ((p,w)::P.zip vs) m x = _;unfold bindL;exact rN (i:=i) (bZ.mp nd).2 (by simpa using h1) (by simpa using h2) hk
theorem rP {kindOf:Str->Option jZ} {x:Str} {v:af}:∀ {P:List Str} {vs:List af} {i:Nat} {m:Str->Option af},P.Nodup->P[i]? = some x->vs[i]? = some v->kindOf x≠some .local ->
 bindC kindOf (P.zip vs) m x = some v
 | [],_,_,_,_,h,_,_=>by simp at h
 | _::_,[],_,_,_,_,h,_=>by simp at h
 | p::P,w::vs,0,m,nd,h1,h2,hk=>by
   simp at h1 h2;subst h1;subst h2;show bindC kindOf ((p,w)::P.zip vs) m p = _;unfold bindC;rw [rO fun v hv=>(bZ.mp nd).1 (iu hv).1,if_neg hk]
   simp
 | p::P,w::vs,i+1,m,nd,h1,h2,hk=>by
   show bindC kindOf ((p,w)::P.zip vs) m x = _;unfold bindC;exact rP (i:=i) (bZ.mp nd).2 (by simpa using h1) (by simpa using h2) hk
noncomputable def start (N:List Str) (vs:List V):St:=vs.map some++aN (N.length - vs.length) none
noncomputable def tW (CX:CXT) (P:aM) (w:bj) (K:PySem.W.Frag) (mg:Str->Option af) (base:bJ) (N:List Str) (qual:Str) (scope:dS) (f:av) (cd:af) (A:ba) (outer:List Env) (s:ai) (H:Hp) (E:XK):Cx where
 prog:=P
 w:=w
 K:=K
 mg:=mg
 base:=base
 A:=A.deeper (envOfC qual scope s.heap.objs.size f cd)
 N:=N
 s₀:=s
 H₀:=H
 env:=envOfC qual scope s.heap.objs.size f cd
 outer:=outer
 stack:=envOfC qual scope s.heap.objs.size f cd::outer
 ex:=[]
 calm:=true
 fn:=fun _=>true
 pn:=[]
 xe:=fun e s'=>wpAny (model P w) (A.deeper (envOfC qual scope s.heap.objs.size f cd)) (leaving (envOfC qual scope s.heap.objs.size f cd) e) (fun _ s''=>CX outer H s E e s'') (fun e' s''=>CX outer H s E e' s'') s'
theorem vE {sc:dS} {n:Nat} {x:Str} (h:sc.names.lookup x = some .cell):∃ c,(cellsFrom n sc.names []).lookup x = some c:=by
 have q:=PySem.W.cellsFrom_some sc.names n [] (.inl h);exact rR.mp q
theorem As {CX:CXT} {P:aM} {w:bj} {K:PySem.W.Frag} {mg:Str->Option af} {base:bJ} {N ps:List Str} {qual:Str} {scope:dS} {f:av} {cd:af} {A:ba} {outer:List Env} {s s1:ai} {H:Hp} {E:XK} {us:List af} {vs:List V}
 (S:mR N ps scope) (hd:A.handled = none) (e0:ug P w K mg base A outer s H) (hl:vs.length = ps.length) (r:Vals vs us)
 (x:InCallC s s.heap.objs.size (bindL (envOfC qual scope s.heap.objs.size f cd).kindOf (ps.zip us) fun _=>none) (cellsFrom (s.heap.objs.size+1) scope.names []) (bindC (envOfC qual scope s.heap.objs.size f cd).kindOf (ps.zip us) fun _=>none) s1) :
 Inv (tW CX P w K mg base N qual scope f cd A outer s H E) [] (start N vs) H s1:=by
 have hpl:ps.length<=N.length:=by have:=congrArg zf S.pre;rw [cF] at this;lia
 obtain ⟨h1,tk,rfl,hk⟩:=x.done;have noA:∀ b:av,b∉(tW CX P w K mg base N qual scope f cd A outer s H E).ex:=fun b z=>absurd (show b∈([]:List av) from z) (by simp)
 refine ⟨⟨e0.mod,S.kind,rfl,rfl,aB _,fun y z c h1 h2=>?_,fun y hy=>?_,fun y c _ h=>?_,fun _=>hd,vV e0.frames,.inr ⟨rfl,rfl⟩,fun b z=>absurd z (noA b),e0.bs,e0.bsz,fun b _ _=>noA b,fun b z=>absurd z (noA b),e0.funs,e0.frf⟩,
  rfl,e0.bare,Un.kept hk,⟨_,x.toInCall.ns,fun i y v h1 h2 h3=>?_⟩,fun y c h=>⟨_,x.cell y c h⟩,e0.hok.fresh (aB _),fun y c h=>?_,fun p hp=>absurd (show p∈([]:List (av × Obj)) from hp) (by simp),e0.hok.kept hk,?_⟩
 . exact name_of_addr x.apart (PySem.mem_of_lookup h1) (PySem.mem_of_lookup h2)
 . have hy:scope.names.lookup y = some .cell\/scope.names.lookup y = some .free:=hy;rcases hy with hy | hy
   . exact vE hy
   . exact absurd rfl (S.nofree _ (PySem.mem_of_lookup hy))
 . exact iR (x.above y c (PySem.mem_of_lookup h))
 . have hi:i < vs.length:=by
    unfold start at h2;by_cases hi:i < vs.length
    . exact hi
    . rw [br (by simpa using hi)] at h2;rw [di] at h2;split at h2<;>cases h2
   have ha:vs[i]? = some v:=by
    unfold start at h2;rw [aW (by simpa using hi),bG] at h2
    cases e:vs[i]? with
    | none=>rw [e] at h2;cases h2
    | some a=>rw [e] at h2;cases h2;rfl
   obtain ⟨u,hu,rv⟩:=r.get ha
   have hp:ps[i]? = some y:=by
    rw [<- S.pre,dO (by lia)];exact h1
   have ndP:ps.Nodup:=by rw [<- S.pre];exact S.nd.sublist (List.take_sublist _ _)
   refine ⟨u,rv,?_⟩;rcases S.par y (lC hp) with k | k
   . exact .inl ⟨k,rN ndP hp hu k⟩
   . obtain ⟨c,e⟩:=vE (n:=s.heap.objs.size+1) k;refine .inr ⟨.inl k,c,e,?_⟩;have q:=x.cell y c e;rw [rP ndP hp hu (by show scope.names.lookup y≠_;rw [k];decide)] at q;exact q
 . exact e0.hok.fresh (iR (x.above y c (PySem.mem_of_lookup h)))
 . unfold start;show _ = N.length;rw [aj,ao,du]
   lia
theorem MK {CX:CXT} {P:aM} {w:bj} {K:PySem.W.Frag} {mg:Str->Option af} {base:bJ} {k:Nat} {f:av} {name qual:Str} {params:oy} {body:List cY} {scope:dS} {dV kV doc pm cdv ct oc:af} {an od:Option av}
 {osl:Array (Option af)} {N ps:List Str} {sp:Sp} (lk:K.lookup f = some ⟨oc,od,.func (PySem.W.fnOf name qual params body scope dV kV doc pm an cdv ct),osl⟩) (hcd:PySem.W.codeIn K cdv qual = true) (S:mR N ps scope)
 (len:∀ vs H Q E,sp vs H Q E->vs.length = ps.length)
 (hbody:∀ (A:ba) (outer:List Env) (s:ai) (H:Hp) (vs:List V) (Q:VK) (E:XK),km k (A.deeper (envOfC qual scope s.heap.objs.size f cdv))->sp vs H Q E ->
   ∃ t,PSs (tW CX P w K mg base N qual scope f cdv A outer s H E) body t/\t { nx:=fun _ H'=>Q .non H',rt:=Q } (start N vs) H) :
 lq P w K mg base CX (k+1) f (PySem.W.fnOf name qual params body scope dV kV doc pm an cdv ct) ps sp:=by
 refine ⟨len,fun A outer s H args us vs Q E hr e0 hb r hsp=>?_⟩;have hl:=len _ _ _ _ hsp;have KX:K.In s.heap:=e0.mod.kin.keeps fun b o e=>(e0.bs b o e).1;have lim:s.heap.NoLimit:=e0.mod.nolimit.keeps fun b o e=>(e0.bs b o e).1
 have hkind:∀ y∈ps.zip us,scope.names.lookup y.1 = some .local\/(scope.names.lookup y.1 = some .cell/\((cellsFrom (s.heap.objs.size+1) scope.names []).lookup y.1).isSome = true):=fun ⟨n,v⟩ hy=>by
  rcases S.par n (iu hy).1 with q | q
  . exact .inl q
  . exact .inr ⟨q,PySem.W.cellsFrom_some _ _ _ (.inl q)⟩
 refine codeAny_call_function hr.depth (KX _ _ lk) rfl S.co S.gen rfl (PySem.W.codeRec_of KX hcd) (hb _ _ _ _ ?_);refine wpAny_newFunctionEnv_cells S.kind hkind fun env he s1 x=>?_;subst he;refine ⟨lim.keeps x.toInCall.keep,codeAny_func ?_⟩;obtain ⟨t,ht,hq⟩:=hbody A outer s H vs Q E (hr.deeper _) hsp;have I:Inv (tW CX P w K mg base N qual scope f cdv A outer s H E) [] (start N vs) H s1:=As S hr.hd e0 hl r x;refine iJ (ht [] s1 (start N vs) H _ I hq) (fun fl s' hs=>?_) fun e s' hs=>hs
 have fin:∀ {σ':St} {H':Hp} {v:V} {u:af},Inv (tW CX P w K mg base N qual scope f cdv A outer s H E) [] σ' H' s'->RelV v u->Q v H'->CE outer P w H s Q u s' :=
  fun {σ' H' v u} J rv q=>⟨v,H',J.os,J.bare,J.base,J.hok,rv,q⟩
 cases fl with
 | ret u =>
   obtain ⟨v,σ',H',J,rv,q⟩:=hs
   exact fin J rv q
 | next =>
   obtain ⟨σ',H',J,q⟩:=hs
   exact fin (v:=V.non) (u:=cm) J rfl q
 | brk =>
   obtain ⟨_,_,_,q⟩:=hs
   exact cB q
 | cont =>
   obtain ⟨_,_,_,q⟩:=hs;exact cB q
end L2
namespace L2
open PySem PySem.Spec PyProof.Rows
section
variable {X:Cx} {x:Str} {p pos:Pos} {e:aE} {es:List aE} {t:TA} {id T:String} {r:List V->Hp->VK->Prop}
noncomputable def tCB (r:List V->Hp->VK->Prop) (t:TA):TE:=fun σ H Q=>t σ H fun vs H1=>r vs H1 Q
theorem ky (hc:cU X (.builtin id) r) (hg:Gl X x) (hm:X.mg x = none) (hv:bootBuiltins x = some (.builtin id)) (ha:PA X (e::es) t) (hn:x≠"__name__":=by decide) (hdb:(x == ("__debug__":Str)) = false:=by decide)
 (he:starEach (e::es) X.env = (false,eval e X.env)::starEach es X.env:=by rfl) (hpl:(backTo pos (starEach es X.env)).any (·.1) = false:=by rfl):PE X (.Call (.Name x p) (e::es) [] pos) (tCB r t):=by
 intro pins s σ H Q I h;refine gq (qe I hg hm hv ?_ hn hdb);exact PyProof.Rows.callWith_builtin1 (thn (ha pos pins s σ H _ I h) fun us s1 ⟨vs,H1,I1,r1,q1⟩=>hc pins s1 σ H1 vs us Q I1 r1 q1) he hpl
theorem jo (hc:cU X (.type T) r) (hg:Gl X x) (hm:X.mg x = none) (hv:bootBuiltins x = some (.type T)) (ha:PA X (e::es) t) (hn:x≠"__name__":=by decide) (hdb:(x == ("__debug__":Str)) = false:=by decide)
 (he:starEach (e::es) X.env = (false,eval e X.env)::starEach es X.env:=by rfl) (hpl:(backTo pos (starEach es X.env)).any (·.1) = false:=by rfl):PE X (.Call (.Name x p) (e::es) [] pos) (tCB r t):=by
 intro pins s σ H Q I h;refine gq (qe I hg hm hv ?_ hn hdb);exact gG (thn (ha pos pins s σ H _ I h) fun us s1 ⟨vs,H1,I1,r1,q1⟩=>hc pins s1 σ H1 vs us Q I1 r1 q1) he hpl
end
end L2
namespace HT
open PySem PyProof.Rows
section
open PySem.SeqAt
open PySem.AutoSeq1 (wpAny_loadPart')
open PySem.MeetsSeq PySem.MeetsSeq2 PySem.MeetsSeq3
end
section
variable {prog:aM} {w:bj} {A:ba} {E:af->ai->Prop} {s:ai}
theorem cat_tup (ht:Bb s.heap t vs.toArray) (hb:Bb s.heap b ws.toArray) (hv:vs≠[])
 (h1:ws = []->Q (.ref t) s) (h2:ws≠[]->Q (.ref s.heap.objs.size) { s with heap:=s.heap.push { cls:=.type "tuple",data:=.seq (vs++ws).toArray } })
 (hsz:vs.length+ws.length<=sizeLine):wpAny (model prog w) A (binaryOp .Add (.ref t) (.ref b)) Q E s:=by
 obtain ⟨⟨cls,dd,data,sl⟩,ho,hc,n,hd⟩:=id ht;obtain ⟨⟨cls2,dd2,data2,sl2⟩,ho2,hc2,n2,hd2⟩:=id hb;simp only at hc hd hc2 hd2;subst hc hd hc2 hd2;have e:vs.toArray++ws.toArray = (vs++ws).toArray:=by simp
 by_cases hw:ws = []
 . exact EO ⟨_,ho,rfl⟩ ⟨_,ho2,rfl⟩ ui AJ PySem.F.slot_tuple_add PySem.F.entry_tuple_add (PySem.F.args_tuple_add_2 _ _)
    (tuple_addW1 t b vs.toArray ws.toArray n n2 dd dd2 sl sl2 (by simpa using hv) (by simp [hw])) ⟨ho,ho2,h1 hw⟩
 . refine EO ⟨_,ho,rfl⟩ ⟨_,ho2,rfl⟩ ui AJ PySem.F.slot_tuple_add PySem.F.entry_tuple_add (PySem.F.args_tuple_add_2 _ _)
    (tuple_addW2 t b vs.toArray ws.toArray n n2 dd dd2 sl sl2 (by simpa using hv) (by simpa using hw) (by rw [aD,aD];exact hsz)) ⟨ho,ho2,?_⟩
   rw [e];exact h2 hw
noncomputable def sIx (n d:Nat):Option Int->Nat
 | none=>d
 | some v=>if v < 0 then (v+(n:Int)).toNat else min v.toNat n
theorem sIx_nat (n d k:Nat):sIx n d (some (k:Int)) = min k n:=by
 show (if (k:Int) < 0 then ((k:Int)+(n:Int)).toNat else min (k:Int).toNat n) = min k n;rw [if_neg (by lia),jB]
theorem Jg (n d:Nat) (hd:d<=n) (o:Option Int):sIx n d o<=n:=by
 cases o with
 | none=>exact hd
 | some v =>
   show (if v < 0 then (v+(n:Int)).toNat else min v.toNat n)<=n;by_cases hv:v < 0
   . rw [if_pos hv];lia
   . rw [if_neg hv];exact qx _ _
theorem yQ (v:Int) (n d:Nat):(if v < 0 then max (v+(n:Int)) 0 else min v (n:Int)) = ((sIx n d (some v):Nat):Int):=by
 show (if v < 0 then max (v+(n:Int)) 0 else min v (n:Int)) = (((if v < 0 then (v+(n:Int)).toNat else min v.toNat n):Nat):Int);by_cases hv:v < 0
 . simp only [if_pos hv];lia
 . simp only [if_neg hv];lia
theorem xv (lo hi:Option Int) (n:Nat):gZ lo hi 1 (n:Int) = (((sIx n 0 lo:Nat):Int),((sIx n n hi:Nat):Int)):=by
 have h1:¬ ((1:Int) < 0):=by lia
 unfold gZ;simp only [h1,if_false];refine Prod.ext ?_ ?_
 . cases lo with
   | none=>rfl
   | some v=>exact yQ v n 0
 . cases hi with
   | none=>rfl
   | some v=>exact yQ v n n
theorem wK (i j:Nat):bW (i:Int) (j:Int) 1 = j - i:=by
 unfold bW;have h1:(1:Int) > 0:=by lia
 simp only [h1,if_true,Int.ediv_one];split<;>lia
theorem pO {v:af} {o:Option Int} {Q:Option Int->ai->Prop} (p:qy v o) (h:Q o s):wpAny (model prog w) A (Builtin.Slice.slicePartIndex v) Q E s:=by
 cases p with
 | none=>exact nU h
 | int i t=>exact slicePart_int h
theorem nv {sl:av} {vl vu:af} {lo hi:Option Int} {n:Nat} {Q:Int × Int × Nat->ai->Prop} (hs:s.heap.IsSliceOf sl vl vu .none) (pl:qy vl lo) (pu:qy vu hi)
 (h:Q (((sIx n 0 lo:Nat):Int),1,sIx n n hi - sIx n 0 lo) s):wpAny (model prog w) A (eC (.ref sl) (pure (n:Int))) Q E s:=by
 obtain ⟨os,hos,hcs,hds⟩:=id hs;unfold eC mW;refine ab (ab (bU hos hds (x:=vl) rfl (ab (bU hos hds (x:=vu) rfl (ab (bU hos hds (x:=.none) rfl (aw ?_)))))));refine ab (nU ?_);show wpAny _ _ (if ((1:Int) == 0) = true then _ else _) _ _ s;rw [if_neg (by decide)];refine ab (pO pl (ab (pO pu (ab (aw ?_)))));show wpAny _ _ (match gZ lo hi 1 (n:Int) with | (lo,hi)=>pure (lo,(1:Int),bW lo hi 1)) _ _ s;rw [xv lo hi n];show wpAny _ _ (pure (((sIx n 0 lo:Nat):Int),(1:Int),bW ((sIx n 0 lo:Nat):Int) ((sIx n n hi:Nat):Int) 1)) _ _ s;rw [wK];exact aw h
theorem Dc (xs:Array af) (i k:Nat):((bC k).filterMap fun (m:Nat)=>xs[((i:Int)+(m:Int) * 1).toNat]?).toArray = ((xs.toList.drop i).take k).toArray:=by
 have e:(fun (m:Nat)=>xs[((i:Int)+(m:Int) * 1).toNat]?) = fun m=>xs[i+m]? := by
  funext m
  have:((i:Int)+(m:Int) * 1).toNat = i+m:=by lia
  rw [this]
 rw [e];have:=pick_run xs i k;rw [List.filterMap_map] at this;have e2:((fun x=>xs[x]?) ∘ fun x=>i+x) = fun m=>xs[i+m]? := rfl;rw [e2] at this;rw [this]
theorem getItem_tuple_cut {t sl:av} {items:Array af} {vl vu:af} {lo hi:Option Int} {Q:af->ai->Prop} (ht:Bb s.heap t items) (hs:s.heap.IsSliceOf sl vl vu .none) (pl:qy vl lo) (pu:qy vu hi)
 (hw:¬ (sIx items.size 0 lo = 0/\sIx items.size items.size hi = items.size))
 (h:Q (.ref s.heap.objs.size) { s with heap:=s.heap.push { cls:=.type "tuple",data:=.seq ((items.toList.drop (sIx items.size 0 lo)).take (sIx items.size items.size hi - sIx items.size 0 lo)).toArray } })
 (hsz:items.size<=sizeLine):wpAny (model prog w) A (getItem (.ref t) (.ref sl)) Q E s:=by
 have htake:sizeOk (.seq ((items.toList.drop (sIx items.size 0 lo)).take (sIx items.size items.size hi - sIx items.size 0 lo)).toArray):=by
  show ((items.toList.drop (sIx items.size 0 lo)).take (sIx items.size items.size hi - sIx items.size 0 lo)).toArray.size<=sizeLine;rw [aD,cF,gK,bp];omega
 have hj:sIx items.size items.size hi<=items.size:=Jg _ _ (aB _) hi;obtain ⟨os,hos,hcs,hds⟩:=id hs;have hTs:s.TypeIs (.ref sl) "slice":=⟨os,hos,hcs⟩;unfold getItem
 try with_reducible refine cE ?_
 first | refine ab (aw ?_) | skip
 refine ab (Lj ht.typeIs (by decide) ?_)
 refine ab (cb (name:=eN "__getitem__") ht.typeIs dr
  (bM dr ht.typeIs HY ?_ (Lg _ _)))
 show wpAny _ _ (mS (.ref t) >>= _) _ _ s;refine ab (tupleItemsOf_ ht ?_);refine ab (qK hTs ?_);rw [if_pos (by decide)];refine ab (nv hs pl pu ?_)
 have hno:¬ ((((sIx items.size 0 lo:Nat):Int) == 0 && (1:Int) == 1 && (sIx items.size items.size hi - sIx items.size 0 lo) == items.size) = true):=by
  intro q;rw [aa,aa] at q;have q1:((sIx items.size 0 lo:Nat):Int) = 0:=eq_of_beq q.1.1;have q2:sIx items.size items.size hi - sIx items.size 0 lo = items.size:=eq_of_beq q.2;exact hw ⟨by omega,by omega⟩
 show wpAny _ _ (if (((sIx items.size 0 lo:Nat):Int) == 0 && (1:Int) == 1 && (sIx items.size items.size hi - sIx items.size 0 lo) == items.size) = true then _ else _) _ _ s;rw [if_neg hno,Dc]
 first
  | exact ab (m:=bN _) (aR (aw ⟨_,rfl,aw h⟩) htake)
  | exact ab (m:=bN _) (aR (ab (aw (aw ⟨_,rfl,aw h⟩))) htake)
  | exact ab (ab (m:=bN _) (aR (aw (aw ⟨_,rfl,aw h⟩)) htake))
  | exact ab (ab (m:=bN _) (aR (aw ⟨_,rfl,aw h⟩) htake))
end
end HT
namespace L2
open PySem PySem.Spec PyProof.Rows
abbrev TO:=St->Hp->(Option Int->Hp->Prop)->Prop
noncomputable def PO (X:Cx) (e:Option aE) (t:TO):Prop :=
 ∀ (pins:List (av × Obj)) (s:ai) (σ:St) (H:Hp) (Q:Option Int->Hp->Prop),Inv X pins σ H s->t σ H Q ->
  wpAny (model X.prog X.w) X.A (evalPart e X.env) (fun u s'=>∃ o H',Inv X pins σ H' s'/\qy u o/\Q o H') X.xe s
noncomputable def Fx:TO:=fun _ H Q=>Q none H
noncomputable def LI (t:TE):TO:=fun σ H Q=>t σ H fun x H1=>∃ i,x = .int i/\Q (some i) H1
section
variable {X:Cx} {e:aE} {te:TE} {lo hi:Option aE} {tl th:TO} {pos p2:Pos}
theorem Gu:PO X none Fx:=by
 intro pins s σ H Q I h;rw [AK];exact aw ⟨none,H,I,.none,h⟩
theorem Gr (h:PE X e te):PO X (some e) (LI te):=by
 intro pins s σ H Q I hw;rw [evalPart_some];refine thn (h pins s σ H _ I hw) fun u s1 zz=>?_;obtain ⟨x,H1,I1,r1,q1⟩:=zz;obtain ⟨i,rfl,q⟩:=q1;obtain ⟨t,rfl⟩:=r1;exact ⟨some i,H1,I1,.int i t,q⟩
noncomputable def SlR (X:Cx) (r:V->Option Int->Option Int->Hp->VK->Prop):Prop :=
 ∀ (pins:List (av × Obj)) (s:ai) (σ:St) (H:Hp) (x:V) (v vl vu:af) (lo hi:Option Int) (sl:av) (Q:VK),Inv X pins σ H s->RelV x v->s.heap.IsSliceOf sl vl vu .none->qy vl lo->qy vu hi->r x lo hi H Q ->
  ∃ T id,typeLookup (.type T) "__getitem__" = pure (some (.builtin id))/\s.TypeIs v T/\wpAny (model X.prog X.w) X.A (getItem v (.ref sl)) (EP X pins σ Q) X.xe s
theorem SlR.or {r r':V->Option Int->Option Int->Hp->VK->Prop} (h:SlR X r) (h':SlR X r'):SlR X (fun x lo hi H Q=>r x lo hi H Q\/r' x lo hi H Q):=by
 intro pins s σ H x v vl vu lo hi sl Q I rx hs pl pu q;rcases q with q | q
 . exact h pins s σ H x v vl vu lo hi sl Q I rx hs pl pu q
 . exact h' pins s σ H x v vl vu lo hi sl Q I rx hs pl pu q
noncomputable def tSl (r:V->Option Int->Option Int->Hp->VK->Prop) (te:TE) (tl th:TO):TE:=fun σ H Q=>te σ H fun x H1=>tl σ H1 fun l H2=>th σ H2 fun u H3=>r x l u H3 Q
theorem uV (hr:SlR X r) (he:PE X e te) (hl:PO X lo tl) (hu:PO X hi th):PE X (.Subscript e (.Slice lo hi none p2) pos) (tSl r te tl th):=by
 intro pins s σ H Q I h;refine Lh (thn (he pins s σ H _ I h) fun v s1 ⟨x,H1,I1,r1,q1⟩=>?_);refine wpAny_Slice (thn (hl pins s1 σ H1 _ I1 q1) fun vl s2 ⟨l,H2,I2,pl,q2⟩=>thn (hu pins s2 σ H2 _ I2 q2) fun vu s3 ⟨u,H3,I3,pu,q3⟩=>?_);rw [AK];refine aw ?_;have I4:Inv X pins σ H3 { s3 with heap:=s3.heap.push { cls:=.type "slice",data:=.fields #[vl,vu,.none] } }:=I3.kept (t':=s3.toks) fun b ob q=>ah _ q;obtain ⟨T,id,hT,ht,hg⟩:=hr pins { s3 with heap:=s3.heap.push { cls:=.type "slice",data:=.fields #[vl,vu,.none] } } σ H3 x v vl vu l u s3.heap.objs.size Q I4 r1 (qC ..) pl pu q3;show wpAny (model X.prog X.w) X.A (subscriptTail e (.Slice lo hi none p2) v (.ref s3.heap.objs.size)) (EP X pins σ Q) X.xe { s3 with heap:=s3.heap.push { cls:=.type "slice",data:=.fields #[vl,vu,.none] } };exact Hu (ops:=[.ref s3.heap.objs.size,v]) ht hT hg (by with_unfolding_all rfl)
noncomputable def qH (xs:List V) (lo hi:Option Int):List V:=(xs.drop (HT.sIx xs.length 0 lo)).take (HT.sIx xs.length xs.length hi - HT.sIx xs.length 0 lo)
theorem og (xs:List V) (lo hi:Option Int):(qH xs lo hi).length<=xs.length:=by
 unfold qH;rw [cF,gK]
 lia
noncomputable def Nx (K:PySem.W.Frag):V->Option Int->Option Int->Hp->VK->Prop:=fun x lo hi H Q=>∃ a xs,x = .ref a/\SqT K H a xs /\
 ¬ (HT.sIx xs.length 0 lo = 0/\HT.sIx xs.length xs.length hi = xs.length)/\∀ p,H p = none->Q (.ref p) (upd H p (.tup (qH xs lo hi)))
theorem Jc:SlR X (Nx X.K):=by
 intro pins s σ H x v vl vu lo hi sl Q I rx hs pl pu h;obtain ⟨a,xs,rfl,hx,hw,q⟩:=h;cases rx;obtain ⟨its,r,ht,hz⟩:=I.tuple hx;have hlen:its.toArray.size = xs.length:=by rw [aD];exact r.length.symm
 refine ⟨"tuple",_,PyProof.Rows.slot_tuple_getitem.lookup,ht.typeIs,?_⟩;refine HT.getItem_tuple_cut ht hs pl pu (by rw [hlen];exact hw) ?_ (by rw [hlen];exact hz);rw [hlen];refine ⟨.ref s.heap.objs.size,_,I.laid (t':=s.toks) (o:=.tup (qH xs lo hi)) (fun b ob q=>ah _ q) (aB _) ?_,rfl,q _ (I.hok.fresh (aB _))⟩;exact ⟨bc (og xs lo hi) hz,_,(r.drop (HT.sIx xs.length 0 lo)).take (HT.sIx xs.length xs.length hi - HT.sIx xs.length 0 lo),oK _ _⟩
noncomputable def Ma (K:PySem.W.Frag):R2:=fun x y H Q=>∃ a b xs ys,x = .ref a/\y = .ref b/\SqT K H a xs/\SqT K H b ys/\xs≠[]/\xs.length+ys.length<=sizeLine /\
 (ys = []->Q (.ref a) H)/\(ys≠[]->∀ p,H p = none->Q (.ref p) (upd H p (.tup (xs++ys))))
theorem Vals.nil_iff (r:Vals xs us):us = []↔xs = []:=by
 cases r with
 | nil=>simp
 | cons _ _=>simp
theorem GD:OpR X (binaryOp .Add) (Ma X.K):=by
 intro pins s σ H x y v u Q I rx ry h;obtain ⟨a,b,xs,ys,rfl,rfl,ha,hb,hx,hz,q1,q2⟩:=h;cases rx;cases ry;obtain ⟨its,r1,p1,_⟩:=I.tuple ha;obtain ⟨its2,r2,p2,_⟩:=I.tuple hb;refine HT.cat_tup p1 p2 (fun z=>hx (r1.nil_iff.mp z)) (fun z=>⟨.ref a,H,I,rfl,q1 (r2.nil_iff.mp z)⟩) (fun z=>?_) (by rw [<- r1.length,<- r2.length];exact hz);refine ⟨.ref s.heap.objs.size,_,I.laid (t':=s.toks) (o:=.tup (xs++ys)) (fun b ob q=>ah _ q) (aB _) ?_,rfl,q2 (fun w=>z (r2.nil_iff.mpr w)) _ (I.hok.fresh (aB _))⟩;exact ⟨by rw [aj];exact hz,_,r1.append r2,oK _ _⟩
end
end L2
namespace L2
open PySem PySem.Spec PyProof.Rows
noncomputable def ixN (n:Nat) (i:Int):Option Nat:=if 0<=i then (if i < n then some i.toNat else none) else if -(n:Int)<=i then some (i+n).toNat else none
noncomputable def atI {α:Type} (xs:List α) (i:Int):Option α:=(ixN xs.length i).bind fun j=>xs[j]?
theorem yB (h:ixN n i = some j):seqIndex? i n = some j/\j < n/\-(n:Int)<=i/\i < n:=by
 unfold ixN at h;by_cases h0:0<=i
 . rw [if_pos h0] at h;by_cases h1:i < n
   . rw [if_pos h1] at h;have e:i.toNat = j:=bt h;exact ⟨by rw [Hv h0 h1,e],by lia,by lia,h1⟩
   . rw [if_neg h1] at h;cases h
 . rw [if_neg h0] at h;by_cases h1:-(n:Int)<=i
   . rw [if_pos h1] at h;have e:(i+n).toNat = j:=bt h;exact ⟨by rw [EN (by lia) h1,e],by lia,h1,by lia⟩
   . rw [if_neg h1] at h;cases h
theorem uf {α:Type} {xs:List α} {i:Int} {v:α} (h:atI xs i = some v):∃ j,seqIndex? i xs.length = some j/\xs[j]? = some v/\j < xs.length/\-(xs.length:Int)<=i/\i < xs.length:=by
 unfold atI at h
 cases e:ixN xs.length i with
 | none=>rw [e] at h;cases h
 | some j =>
   rw [e] at h;obtain ⟨h1,h2,h3,h4⟩:=yB e;exact ⟨j,h1,h,h2,h3,h4⟩
theorem atI_nat {α:Type} {xs:List α} {j:Nat} {v:α} (h:xs[j]? = some v):atI xs (j:Int) = some v:=by
 have hj:j < xs.length:=(aH.mp h).1
 have e:ixN xs.length (j:Int) = some j:=by
  unfold ixN;rw [if_pos (by lia),if_pos (by lia)];simp
 unfold atI;rw [e];exact h
noncomputable def PlainIx (b:aE):Prop:=∀ o i,subscripted b false o i = operate [o,i] (getItem o i)
noncomputable def IxR (X:Cx) (r:R2):Prop :=
 ∀ (value slice:aE) (pins:List (av × Obj)) (s:ai) (σ:St) (H:Hp) (x y:V) (v u:af) (Q:VK),Inv X pins σ H s->RelV x v->RelV y u->r x y H Q ->
  subscripted slice false v u = operate [v,u] (getItem v u)->wpAny (model X.prog X.w) X.A (subscriptTail value slice v u) (EP X pins σ Q) X.xe s
noncomputable def MtR (X:Cx) (id:String) (r:V->List V->Hp->VK->Prop):Prop :=
 ∀ (pins:List (av × Obj)) (s:ai) (σ:St) (H:Hp) (x:V) (xs:List V) (v:af) (us:List af) (Q:VK),Inv X pins σ H s->RelV x v->Vals xs us->r x xs H Q ->
  wpAny (model X.prog X.w) X.A (call (.builtin id) (v::us)) (EP X pins σ Q) X.xe s
section
variable {X:Cx} {a b:aE} {ta tb:TE} {pos:Pos}
theorem IxR.or {r r':R2} (h:IxR X r) (h':IxR X r'):IxR X (fun x y H Q=>r x y H Q\/r' x y H Q):=by
 intro value slice pins s σ H x y v u Q I rx ry q hs;rcases q with q | q
 . exact h value slice pins s σ H x y v u Q I rx ry q hs
 . exact h' value slice pins s σ H x y v u Q I rx ry q hs
theorem Mj (hr:IxR X r) (ha:PE X a ta) (hb:PE X b tb) (hs:PlainIx b):PE X (.Subscript a b pos) (tOp r ta tb):=by
 intro pins s σ H Q I h;exact Lh (KU ha hb I h fun v u s2 x y H2 I2 rx ry q=>hr a b pins s2 σ H2 x y v u Q I2 rx ry q (hs _ _))
noncomputable def LY (K:PySem.W.Frag):R2:=fun x y H Q=>∃ p xs i v,x = .ref p/\y = .int i/\SqL K H p xs/\atI xs i = some v/\Q v H
noncomputable def LW (K:PySem.W.Frag):R2:=fun x y H Q=>∃ p xs i v,x = .ref p/\y = .int i/\SqT K H p xs/\atI xs i = some v/\Q v H
noncomputable def LX:R2:=fun x y H Q=>∃ z i c,x = .str z/\y = .int i/\z.length<=sizeLine/\atI z.cps.toList i = some c/\Q (.str ⟨#[c]⟩) H
theorem GY:IxR X (LY X.K):=by
 intro value slice pins s σ H x y v u Q I rx ry h hs;obtain ⟨p,xs,i,z,rfl,rfl,hq,he,q⟩:=h;cases rx;obtain ⟨t,rfl⟩:=ry;obtain ⟨its,r,pl,hz⟩:=I.list hq;obtain ⟨j,h1,h2,h3,h4,h5⟩:=uf he;obtain ⟨w,ew,rw'⟩:=r.get h2;have hl:=r.length;have hn:=lL;have fin:EP X pins σ Q w s:=⟨z,H,I,rw',q⟩;by_cases h0:0<=i
 . have hj:i.toNat = j:=by
    rw [Hv h0 h5] at h1;exact bt h1
   exact item_listR pl.isList h0 (by lia) (by rw [hj];simpa using ew) fin hs
 . have hj:(i+(its.toArray.size:Int)).toNat = j:=by
    rw [EN (by lia) h4] at h1;rw [aD,<- hl];exact bt h1
   exact EM (x:=w) pl.isList.typeIs slot_list_getitem.lookup
    (wpAny_getItem_list_neg (Q:=fun r s'=>r = w/\EP X pins σ Q r s') pl.isList (by lia) (by rw [aD]<;>lia) (by lia) (by rw [hj];simpa using ew) ⟨rfl,fin⟩) hs
theorem Kr:IxR X (LW X.K):=by
 intro value slice pins s σ H x y v u Q I rx ry h hs;obtain ⟨p,xs,i,z,rfl,rfl,hq,he,q⟩:=h;cases rx;obtain ⟨t,rfl⟩:=ry;obtain ⟨its,r,pl,hz⟩:=I.tuple hq;obtain ⟨j,h1,h2,h3,h4,h5⟩:=uf he;obtain ⟨w,ew,rw'⟩:=r.get h2;have hl:=r.length;have hn:=lL;have fin:EP X pins σ Q w s:=⟨z,H,I,rw',q⟩
 exact EM (x:=w) pl.typeIs slot_tuple_getitem.lookup
  (getItem_tuple (j:=j) (Q:=fun r s'=>r = w/\EP X pins σ Q r s') pl (by lia) (by lia) (by rw [aD,<- hl];exact h1) (by simpa using ew) ⟨rfl,fin⟩) hs
theorem Ks:IxR X LX:=by
 intro value slice pins s σ H x y v u Q I rx ry h hs;obtain ⟨z,i,c,rfl,rfl,hz,he,q⟩:=h;obtain ⟨t,rfl⟩:=rx;obtain ⟨t',rfl⟩:=ry;obtain ⟨j,h1,h2,h3,h4,h5⟩:=uf he;have hl:z.cps.toList.length = z.length:=by simp [Str.length]
 rw [hl] at h1 h4 h5;have hn:=lL
 exact Hu (xx s z t) slot_str_getitem.lookup (getItem_str (c:=c) (by
  have e1:decide (i < -(2 ^ 63:Int)) = false:=decide_eq_false (by lia);have e2:decide (i ≥ 2 ^ 63) = false:=decide_eq_false (by lia);rw [e1,e2,ur]) (by rw [h1];simpa using h2) ⟨.str ⟨#[c]⟩,H,I.tok _,⟨_,rfl⟩,q⟩) hs
noncomputable def rIx (K:PySem.W.Frag):R2:=fun x y H Q=>LY K x y H Q\/LW K x y H Q\/LX x y H Q
theorem Kt:IxR X (rIx X.K):=GY.or (Kr.or Ks)
theorem wX (its:List af) (n j:Nat) (u:af):bY (·.setIfInBounds j u) { cls:=.type "list",data:=.seq its.toArray n } = { cls:=.type "list",data:=.seq (its.set j u).toArray n }:=by
 simp [bY]
theorem Inv.lst {pins:List (av × Obj)} {σ:St} {H:Hp} {s:ai} {p:av} {xs:List V} (I:Inv X pins σ H s) (h:H p = some (.lst xs)) :
 ∃ (its:List af) (n:Nat),Vals xs its/\s.heap.get? p = some { cls:=.type "list",data:=.seq its.toArray n }/\xs.length<=sizeLine:=by
 obtain ⟨z,its,n,r,e⟩:=I.hok p _ h;exact ⟨its,n,r,e,z⟩
theorem Inv.lstUpd {pins:List (av × Obj)} {σ:St} {H:Hp} {s:ai} {p:av} {xs ys:List V} {its its':List af} {n n':Nat} {f:Obj->Obj} (I:Inv X pins σ H s) (h:H p = some (.lst xs))
 (ho:s.heap.get? p = some { cls:=.type "list",data:=.seq its.toArray n }) (hf:f { cls:=.type "list",data:=.seq its.toArray n } = { cls:=.type "list",data:=.seq its'.toArray n' }) (r:Vals ys its') (hz:ys.length<=sizeLine) (t:Nat) :
 Inv X pins σ (upd H p (.lst ys)) { s with heap:=s.heap.update p f,toks:=t }:=by
 have e:(s.heap.update p f).get? p = some { cls:=.type "list",data:=.seq its'.toArray n' }:=by
  rw [eX f ho (by rw [hf]<;>rfl),hf]
 refine I.write (x:=p) (e:=p) (by rw [h];trivial) (.inl rfl) (fun b u hb q=>(eI _ _ (Ne.symm hb)).trans q) ⟨_,e⟩ ?_;exact ⟨hz,its',n',r,e⟩
noncomputable def LV:V->V->V->Hp->(Hp->Prop)->Prop:=fun o i v H Q=>∃ p xs k j,o = .ref p/\i = .int k/\H p = some (.lst xs)/\ixN xs.length k = some j/\Q (upd H p (.lst (xs.set j v)))
theorem set_list:MU X LV:=by
 intro pins s σ H o i v ov iv u Q I ro ri rv h;obtain ⟨p,xs,k,j,rfl,rfl,hp,hj,q⟩:=h;cases ro;obtain ⟨t,rfl⟩:=ri;obtain ⟨its,n,r,ho,hz⟩:=I.lst hp;obtain ⟨h1,h2,h3,h4⟩:=yB hj;have hl:=r.length;have hn:=lL
 have I':Inv X pins σ (upd H p (.lst (xs.set j v))) { s with heap:=s.heap.update p (bY (·.setIfInBounds j u)) } :=
  I.lstUpd hp ho (wX its n j u) (r.set rv j) (by rw [bR];exact hz) s.toks
 by_cases h0:0<=k
 . have hk:k.toNat = j:=by
    rw [Hv h0 h4] at h1;exact bt h1
   exact PySem.W.ki_setAt ho h0 (by lia) (by rw [aD,<- hl];exact h4) (by rw [hk];exact ⟨_,I',q⟩)
 . have hk:(k+(its.toArray.size:Int)).toNat = j:=by
    rw [EN (by lia) h3] at h1;rw [aD,<- hl];exact bt h1
   exact PySem.W.ki_setBack ho (by lia) (by rw [aD,<- hl];exact h3) (by lia) (by rw [hk];exact ⟨_,I',q⟩)
theorem sD (lo hi:Option Int) (n:Nat):(sliceBounds lo hi none n).1 = ((HT.sIx n 0 lo:Nat):Int)/\(sliceBounds lo hi none n).2.1 = ((HT.sIx n n hi:Nat):Int)/\(sliceBounds lo hi none n).2.2 = 1:=by
 refine ⟨?_,?_,rfl⟩
 . cases lo with
   | none=>simp [sliceBounds,HT.sIx]
   | some i =>
     simp only [sliceBounds,HT.sIx,AW,show (1:Int) > 0 by decide,if_true];by_cases h:i < 0
     . simp only [h,if_true]<;>lia
     . simp only [h,if_false]<;>lia
 . cases hi with
   | none=>simp [sliceBounds,HT.sIx]
   | some i =>
     simp only [sliceBounds,HT.sIx,AW,show (1:Int) > 0 by decide,if_true];by_cases h:i < 0
     . simp only [h,if_true]<;>lia
     . simp only [h,if_false]<;>lia
theorem qE (its:List af) (lo hi:Option Int):slicePick its.toArray lo hi none = ((its.drop (HT.sIx its.length 0 lo)).take (HT.sIx its.length its.length hi - HT.sIx its.length 0 lo)).toArray:=by
 obtain ⟨h1,h2,h3⟩:=sD lo hi its.toArray.size;unfold slicePick;rw [h1,h2,h3];simp only [sliceRange_one,pick_run,aD]<;>rfl
noncomputable def Nz (K:PySem.W.Frag):V->Option Int->Option Int->Hp->VK->Prop:=fun x lo hi H Q=>∃ a xs,x = .ref a/\SqL K H a xs/\∀ p,H p = none->Q (.ref p) (upd H p (.lst (qH xs lo hi)))
theorem xT:SlR X (Nz X.K):=by
 intro pins s σ H x v vl vu lo hi sl Q I rx hs pl pu h;obtain ⟨a,xs,rfl,hx,q⟩:=h;cases rx;obtain ⟨its,r,ht,hz⟩:=I.list hx;have hlen:=r.length;refine ⟨"list",_,slot_list_getitem.lookup,ht.isList.typeIs,?_⟩;refine wpAny_getItem_list_slice ht.isList hs pl pu .none (by simp) ?_ (by rw [aD]<;>lia);rw [qE,<- hlen];refine ⟨.ref s.heap.objs.size,_,I.laid (t':=s.toks) (o:=.lst (qH xs lo hi)) (fun b ob q=>ah _ q) (aB _) ?_,rfl,q _ (I.hok.fresh (aB _))⟩;exact ⟨bc (og xs lo hi) hz,_,0,(r.drop (HT.sIx xs.length 0 lo)).take (HT.sIx xs.length xs.length hi - HT.sIx xs.length 0 lo),aF _ rfl⟩
theorem ue:cU X (.builtin "len") (fun xs H Q=>∃ p ys,xs = [.ref p]/\(SqL X.K H p ys\/SqT X.K H p ys)/\Q (.int ys.length) H):=by
 intro pins s σ H xs us Q I r h;obtain ⟨p,ys,rfl,hq,q⟩:=h;obtain ⟨u,rfl,rx⟩:=vals1 r;cases rx;have hn:=lL;rcases hq with hq | hq
 . obtain ⟨its,r',pl,hz⟩:=I.list hq;have hlen:=r'.length;exact Calls.call_len_list pl.isList (by simp only [aD]<;>lia) ⟨.int ys.length,H,I.tok _,⟨s.toks+1,by rw [aD,hlen]⟩,q⟩
 . obtain ⟨its,r',pl,hz⟩:=I.tuple hq;have hlen:=r'.length;exact len_tuple pl (by simp only [aD]<;>lia) ⟨.int ys.length,H,I.tok _,⟨s.toks+1,by rw [aD,hlen]⟩,q⟩
theorem ud:cU X (.builtin "len") (fun xs H Q=>∃ z,xs = [.str z]/\z.length<=sizeLine/\Q (.int z.length) H):=by
 intro pins s σ H xs us Q I r h;obtain ⟨z,rfl,hz,q⟩:=h;obtain ⟨u,rfl,t,rfl⟩:=vals1 r;have hn:=lL;exact len_str (by lia) ⟨.int z.length,H,I.tok _,⟨_,rfl⟩,q⟩
theorem cU.or {f:af} {r r':List V->Hp->VK->Prop} (h:cU X f r) (h':cU X f r'):cU X f (fun xs H Q=>r xs H Q\/r' xs H Q):=by
 intro pins s σ H xs us Q I rs q;rcases q with q | q
 . exact h pins s σ H xs us Q I rs q
 . exact h' pins s σ H xs us Q I rs q
theorem mM:cU X (.type "list") (fun xs H Q=>∃ p ys,xs = [.ref p]/\(SqL X.K H p ys\/SqT X.K H p ys)/\∀ l,H l = none->Q (.ref l) (upd H l (.lst ys))):=by
 intro pins s σ H xs us Q I r h;obtain ⟨p,ys,rfl,hq,q⟩:=h;obtain ⟨u,rfl,rx⟩:=vals1 r;cases rx
 have fin:∀ (its:List af),Vals ys its->ys.length<=sizeLine->∀ (h':bJ) (c':Nat),(∀ b o',s.heap.get? b = some o'->h'.get? b = some o') ->
  h'.get? s.heap.objs.size = some { cls:=.type "list",dict:=none,data:=.seq its.toArray c',slots := #[] }->EP X pins σ Q (.ref s.heap.objs.size) { s with heap:=h' }:=fun its r' hz h' c' kp e =>
  ⟨.ref s.heap.objs.size,_,I.laid (t':=s.toks) kp (aB _) (show ff X.prog X.w _ h' _ (.lst ys) from ⟨hz,its,c',r',e⟩),rfl,q _ (I.hok.fresh (aB _))⟩
 rcases hq with hq | hq
 . obtain ⟨its,r',pl,hz⟩:=I.list hq;have hlen:=r'.length;obtain ⟨o,ho,hc,n,hd⟩:=pl.isList;exact call_list_seq p (.inl rfl) ho hc hd (fun h' c' kp e=>fin its r' hz h' c' kp e) (by simp only [aD]<;>lia)
 . obtain ⟨its,r',pl,hz⟩:=I.tuple hq;have hlen:=r'.length;obtain ⟨o,ho,hc,n,hd⟩:=pl;exact call_list_seq p (.inr rfl) ho hc hd (fun h' c' kp e=>fin its r' hz h' c' kp e) (by simp only [aD]<;>lia)
theorem qJ:cU X (.type "tuple") (fun xs H Q=>∃ p ys,xs = [.ref p]/\((SqL X.K H p ys/\∀ l,H l = none->Q (.ref l) (upd H l (.tup ys)))\/(SqT X.K H p ys/\Q (.ref p) H))):=by
 intro pins s σ H xs us Q I r h;obtain ⟨p,ys,rfl,h⟩:=h;obtain ⟨u,rfl,rx⟩:=vals1 r;cases rx;rcases h with ⟨hq,q⟩ | ⟨hq,q⟩
 . obtain ⟨its,r',pl,hz⟩:=I.list hq;have hlen:=r'.length;refine call_tuple_list pl.isList (fun h' kp=>?_) (by simp only [aD]<;>lia);have I1:Inv X pins σ H { s with heap:=h' }:=I.kept (t':=s.toks) kp
   have I2:Inv X pins σ (upd H h'.objs.size (.tup ys)) { s with heap:=h'.push { cls:=.type "tuple",data:=.seq its.toArray } } :=
    I1.laid (t':=s.toks) (fun b o e=>ah _ e) (aB _) (show ff X.prog X.w _ _ _ (.tup ys) from ⟨hz,its,r',oK _ _⟩)
   exact ⟨.ref h'.objs.size,_,I2,rfl,q _ (I1.hok.fresh (aB _))⟩
 . obtain ⟨its,r',pl,hz⟩:=I.tuple hq;exact call_tuple_same pl ⟨.ref p,H,I,rfl,q⟩
noncomputable def tyV (K:PySem.W.Frag) (T:String) (x:V) (H:Hp):Prop:=match x with
 | .str _=>T = "str"
 | .int _=>T = "int"
 | .ref p=>(T = "list"/\∃ xs,SqL K H p xs)\/(T = "tuple"/\∃ o,K.lookup p = some o/\o.cls = .type "tuple"/\o.dict = none) \/
    (T = "dict"/\((∃ kvs,H p = some (.dK kvs))\/∃ kvs,H p = some (.dT kvs)))\/(T = "set"/\∃ S n,H p = some (.set S n))
 | _=>False
theorem BR (I:Inv X pins σ H s) (r:RelV x v) (ty:tyV X.K T x H) :
 s.TypeIs v T/\∀ a,v = .ref a->∃ ob,s.heap.get? a = some ob/\ob.dict = none:=by
 cases x with
 | str z =>
   obtain ⟨t,rfl⟩:=r;cases (show T = "str" from ty)
   exact ⟨xx s z t,fun _ e=>nomatch e⟩
 | int i =>
   obtain ⟨t,rfl⟩:=r;cases (show T = "int" from ty)
   exact ⟨typeIs_int s i t,fun _ e=>nomatch e⟩
 | ref p =>
   cases r;rcases ty with ⟨rfl,xs,hq⟩ | ⟨rfl,o,hk,hc,hd⟩ | ⟨rfl,hk⟩ | ⟨rfl,S,n,hk⟩
   . obtain ⟨its,_,pl,_⟩:=I.list hq;refine ⟨pl.isList.typeIs,fun a e=>?_⟩;cases e;obtain ⟨o,n,e,c,hd,_⟩:=pl;exact ⟨o,e,hd⟩
   . refine ⟨⟨o,I.kIn p o hk,hc⟩,fun a e=>?_⟩;cases e;exact ⟨o,I.kIn _ o hk,hd⟩
   . have z:∃ o,s.heap.get? p = some o/\o.ExactDict:=by
      rcases hk with ⟨kvs,hk⟩ | ⟨kvs,hk⟩
      . obtain ⟨_,_,_,_,o,_,_,e,ex,_⟩:=I.hok p _ hk;exact ⟨o,e,ex⟩
      . obtain ⟨_,_,_,_,o,_,_,e,ex,_⟩:=I.hok p _ hk;exact ⟨o,e,ex⟩
     obtain ⟨o,e,ex⟩:=z;refine ⟨⟨o,e,ex.1⟩,fun a e2=>?_⟩;cases e2;exact ⟨o,e,ex.2.1⟩
   . obtain ⟨o,_,_,_,e,ex,_⟩:=I.hok p _ hk;refine ⟨⟨o,e,ex.1⟩,fun a e2=>?_⟩;cases e2
     exact ⟨o,e,ex.2.1⟩
 | _=>exact cB ty
noncomputable def Nn (K:PySem.W.Frag) (T:String) (r:V->List V->Hp->VK->Prop) (to:TE):TE:=fun σ H Q=>to σ H fun x H1=>tyV K T x H1/\r x [] H1 Q
noncomputable def tBM (K:PySem.W.Frag) (T:String) (r:V->List V->Hp->VK->Prop) (to:TE) (t:TA):TE:=fun σ H Q=>to σ H fun x H1=>tyV K T x H1/\t σ H1 fun xs H2=>r x xs H2 Q
variable {o e:aE} {es:List aE} {to:TE} {t:TA} {name:Str} {apos cpos:Pos} {T id:String} {r:V->List V->Hp->VK->Prop}
theorem JH (pa:PlainAttrs T) (slot:Slot T name id) (hty:typeOf (.builtin id) = pure (.type "method_descriptor")) (hm:MtR X id r) (ho:PE X o to)
 (hbase:attributeBase o name X.env (eval o X.env) = eval o X.env:=by rfl) (hline:(apos.endLine == cpos.line) = true:=by rfl):PE X (.Call (.Attribute o name apos) [] [] cpos) (Nn X.K T r to):=by
 intro pins s σ H Q I h;refine wpAny_Call_method0_late hbase hline (thn (ho pins s σ H _ I h) fun v s1 ⟨x,H1,I1,r1,ty,q1⟩=>?_);obtain ⟨h1,h2⟩:=BR I1 r1 ty;exact ⟨T,id,pa,slot,hty,h1,h2,vR rfl (PySem.evalArgs_none (hm pins s1 σ H1 x [] v [] Q I1 r1 .nil q1))⟩
theorem HJ (pa:PlainAttrs T) (slot:Slot T name id) (hty:typeOf (.builtin id) = pure (.type "method_descriptor")) (hm:MtR X id r) (ho:PE X o to) (ha:PA X (e::es) t)
 (hbase:attributeBase o name X.env (eval o X.env) = eval o X.env:=by rfl)
 (hfew:((backTo cpos (starEach (e::es) X.env)).all (fun x=>!x.1) && (backToKw cpos (keywordEach [] X.env)).all (fun x=>x.1.isSome)
   && decide ((e::es).length+([]:List jz).length+(if ([]:List jz).isEmpty then 0 else 1) < 30)) = true:=by rfl)
 (hline:(apos.endLine == cpos.line) = true:=by rfl) (hs:starEach (e::es) X.env = (false,eval e X.env)::starEach es X.env:=by rfl) (hplain:(backTo cpos (starEach es X.env)).any (·.1) = false:=by rfl) :
 PE X (.Call (.Attribute o name apos) (e::es) [] cpos) (tBM X.K T r to t):=by
 intro pins s σ H Q I h;refine wpAny_Call_method_late hbase hfew hline rfl (thn (ho pins s σ H _ I h) fun v s1 ⟨x,H1,I1,r1,ty,q1⟩=>?_);obtain ⟨h1,h2⟩:=BR I1 r1 ty;refine ⟨T,id,pa,slot,hty,h1,h2,?_⟩;have hA:=ha cpos pins s1 σ H1 _ I1 q1;rw [hs] at hA ⊢;refine vR (by show (false || (backTo cpos (starEach es X.env)).any (·.1)) = false;rw [hplain]<;>rfl) (Calls.evalArgs_plain ?_);exact thn hA fun us s2 ⟨vs,H2,I2,r2,q2⟩=>hm pins s2 σ H2 x vs v us Q I2 r1 r2 q2
end
end L2
namespace L2
open PySem PySem.Spec PyProof.Rows
noncomputable def MtM (X:Cx) (id:String) (r:V->List V->Hp->VK->Prop):Prop :=
 ∀ (pins:List (av × Obj)) (s:ai) (σ:St) (H:Hp) (x:V) (xs:List V) (v:af) (us:List af) (Q:VK),Inv X pins σ H s->RelV x v->Vals xs us->r x xs H Q ->
  wpAny (model X.prog X.w) X.A (call (.builtin id) (v::us)) (EP X pins σ Q) X.xe s
theorem Vals.one:∀ {x:V} {us:List af},Vals [x] us->∃ u,us = [u]/\RelV x u
 | _,_,.cons r .nil=>⟨_,rfl,r⟩
section
variable {X:Cx} {pins:List (av × Obj)} {σ:St} {H:Hp} {s:ai} {l b:av} {xs ys zs:List V}
theorem Inv.lset {its its':List af} {n:Nat} {f:Array af->Array af} {t':Nat} (I:Inv X pins σ H s) (hH:H l = some (.lst xs))
 (e:s.heap.get? l = some { cls:=.type "list",data:=.seq its.toArray n }) (hf:f its.toArray = its'.toArray) (hv:Vals ys its') (hz:ys.length<=sizeLine) :
 Inv X pins σ (upd H l (.lst ys)) { s with heap:=s.heap.update l (bY f),toks:=t' }:=by
 have q:=PySem.IsL.update e f;rw [hf] at q;refine I.write (x:=l) (e:=l) (by rw [hH];exact trivial) (.inl rfl) (fun b' u hb hu=>(eI s.heap (bY f) (Ne.symm hb)).trans hu) ⟨_,q⟩ ?_;exact ⟨hz,its',_,hv,q⟩
theorem Inv.lnew (I:Inv X pins σ H s) (hv:Vals ys its) (hz:ys.length<=sizeLine) :
 Inv X pins σ (upd H s.heap.objs.size (.lst ys)) { s with heap:=s.heap.push { cls:=.type "list",data:=.seq its.toArray },toks:=t' } :=
 I.laid (fun _ _ q=>ah _ q) (aB _) ⟨hz,its,0,hv,aF _ rfl⟩
theorem Inv.fresh (I:Inv X pins σ H s):H s.heap.objs.size = none:=I.hok.fresh (aB _)
theorem Inv.lstM (I:Inv X pins σ H s) (hH:H l = some (.lst xs)):xs.length<=sizeLine/\∃ (its:List af) (n:Nat),Vals xs its/\xs.length = its.length/\s.heap.get? l = some { cls:=.type "list",data:=.seq its.toArray n }:=by
 obtain ⟨z,its,n,r,e⟩:=I.hok l _ hH;exact ⟨z,its,n,r,r.length,e⟩
theorem DC {n:Nat} (h:n<=sizeLine):om n = false:=by
 unfold om;exact decide_eq_false (by lia)
end
section
variable {X:Cx}
noncomputable def Gj:V->List V->Hp->VK->Prop:=fun x vs H Q=>∃ l xs y,x = .ref l/\vs = [y]/\H l = some (.lst xs)/\xs.length < sizeLine/\Q .non (upd H l (.lst (xs++[y])))
theorem rE:MtM X "list.append" Gj:=by
 intro pins s σ H x vs v us Q I rx rv h;obtain ⟨l,xs,y,rfl,rfl,hH,hz,q⟩:=h;cases rx;obtain ⟨u,rfl,ru⟩:=rv.one;obtain ⟨z,its,n,r,hl,e⟩:=I.lstM hH;refine call_meets F.slot_list_append ⟨_,e,rfl⟩ F.entry_list_append (F.args_list_append_2 _ _) (PySem.list_append l its.toArray n u (by rw [aD];lia)) ⟨e,?_⟩;refine ⟨.non,_,I.lset (its':=its++[u]) hH e (by simp) (r.append (.cons ru .nil)) ?_,rfl,q⟩;rw [aj,aV]
 lia
end
section
variable {prog:aM} {w:bj} {A:ba} {E:af->ai->Prop} {s:ai}
end
section
variable {X:Cx}
end
end L2
namespace Att
open PySem PySem.W PySem.Calls PyProof.Rows
theorem oF:∀ (ns:List Int) (vs:List af),WellAll P h vs (ns.map WData.int)->EU vs ns:=by
 intro ns
 induction ns with
 | nil =>
   intro vs w;rw [iL] at w;cases w
   exact .nil
 | cons n ns ih =>
   intro vs w;rw [aU] at w
   cases w with
   | cons a b =>
     cases a;exact .cons _ _ (ih _ b)
theorem Aa {l:OpenLaw} {n:Nat} (hn:l.most = some n) {P:Params} {h:bJ} {args:List WData} {vals:List af}
 (hpre:l.row.toRowW.claim.pre args = true) (hwl:WellAll P h vals args) :
 ∃ a vs ns,vals = [iK a]/\args = [WData.list (ns.map WData.int)]/\h.get? a = some { cls:=.type "list",data:=.seq vs.toArray }/\EU vs ns/\ns.length<=n:=by
 have hsh:WShape.hasAll [] args [.list .int] = true:=(pre_splitW hpre).1;have hc:l.pre.holds [] { args:=args } = true:=(pre_splitW hpre).2;obtain ⟨d,r,rfl,h1,h2⟩:=hasAllW_cons hsh;obtain rfl:=hasAllW_nil h2;obtain ⟨xs,rfl,h3⟩:=hasW_list h1;obtain ⟨ns,rfl⟩:=items_int h3
 have hlen:ns.length<=n:=by
  unfold OpenLaw.pre at hc
  have h4:(WTm.not (.lt (.lit (.int (n:Int))) (.len (.arg 0)))).holds [] { args:=[.list (ns.map .int)] } = true:=by
   have h4:=(holds_andW hc).1;rw [hn] at h4;exact h4
  have h5:=condW_of h4 (w_not (w_lt w_lit (w_len_list (w_arg rfl))));rw [ao] at h5;refine Nat.le_of_not_lt fun q=>?_;have q':(n:Int) < ((ns.length:Nat):Int):=by lia
  first
   | (rw [decide_eq_true q'] at h5;exact absurd h5 (by decide))
   | (simp at h5;lia)
 cases hwl with
 | cons w1 w2 =>
   cases w2
   cases w1 with
   | list ho hall=>exact ⟨_,_,ns,rfl,rfl,ho,oF ns _ hall,hlen⟩
theorem Ac (l:OpenLaw) (args:List WData):l.row.toRowW.claim.post args (.bool true) args = true :=
 postW_of (r:=l.row.toRowW) (X:=(true == true))
  (show WShape.has [] (.bool true) .bool = true by first | rfl | decide | simp [WShape.has,WShape.arms,WShape.armsAll])
  (show (WTm.eq .res (.lit (.bool true))).value [] { args:=args,res:=some (.bool true),after:=args } = some (.bool (true == true)) from w_eq_bool (w_res rfl) w_lit) rfl
theorem attach_call {l:OpenLaw} {n:Nat} {q:aM} {loose:List Str} {XP:(Str->Option af)->bJ->Prop} {YP:bj->bJ->Prop} {d:DefRec}
 (hn:l.most = some n) (hdf:d.params.defaults = [])
 (call:∀ (w:bj) (s₀ s₁:ai) (mg mb:Str->Option af) (fa:av) (o:Obj) (pm cd doc:af) (a:av) (vs:List af) (ns:List Int),
   Ground q loose [] XP w s₀ mg mb s₁.heap->YP w s₁.heap ->
   s₁.heap.get? fa = some o->o.data = .func (docDef d.name d.params d.body d.scope pm cd doc)->s₁.heap.CodeRec cd d.name->mg d.name = some (.ref fa) ->
   s₁.heap.get? a = some { cls:=.type "list",data:=.seq vs.toArray }->EU vs ns->ns.length<=n->s₁.gens = #[] ->
   codeAny (model l.prog w) callerA (.call (.ref fa) ⟨[.ref a],[]⟩) (fun r s'=>r = .ok (.ret (.bool true))/\OldK s₁.heap s'.heap/\s'.os = s₁.os/\lX s'.gens) s₁) :
 WalkO q loose XP YP l.row.toRowW d [] (fun f vs=>PySem.call f vs):=by
 intro w s₀ s₁ mg mb G Y fa o pm cd doc dV kV ho hd hcd hD hmg hg args vals as hpre hlay hrd hwl hlo;obtain rfl:dV = .none:=Dflts.none hD hdf;obtain rfl:kV = .none:=Dflts.noKw hD;obtain ⟨a,vs,ns,rfl,rfl,hobj,hints,hlen⟩:=Aa hn hpre hwl;refine enter_call (lT (call w s₀ s₁ mg mb fa o pm cd doc a vs ns G Y ho (fd_plain hd) hcd hmg hobj hints hlen hg) fun r s' hq=>?_);obtain ⟨rfl,h2,h3,h4⟩:=hq;exact ⟨.inl ⟨.bool true,.bool true,[],rfl,fun _=>rfl,.bool true,Ac l _,fun _=>⟨List.Pairwise.nil,fun _ hm=>(nomatch hm)⟩⟩,h2,h3,h4⟩
section
variable {prog:aM} {w:bj} {A:ba} {E:af->ai->Prop} {s:ai} {K:Frag}
end
end Att
namespace L2
open PySem PySem.Spec PyProof.Rows
theorem qU:∀ {vs:List af} {ns:List Int},EU vs ns->Vals (ns.map V.int) vs
 | _,_,.nil=>.nil
 | _,_,.cons n t h=>.cons ⟨t,rfl⟩ (qU h)
end L2
namespace L2
open PySem PySem.Spec PyProof.Rows
end L2
namespace L2
open PySem PySem.Spec PyProof.Rows
noncomputable def gz (s:cY):oy:=match s with
 | .FunctionDef _ a _ _ _ _ _ _ _ _=>a
 | _=>{ posonlyargs:=[],args:=[],vararg:=none,kwonlyargs:=[],kw_defaults:=[],kwarg:=none,defaults:=[] }
noncomputable def eA (s:cY):List cY:=match s with
 | .FunctionDef _ _ b _ _ _ _ _ _ _=>b
 | _=>[]
noncomputable def bA (s:cY):dS:=match s with
 | .FunctionDef _ _ _ _ _ _ sc _ _ _=>sc
 | _=>{ kind:=.function,names:=[],isGenerator:=false,isCoroutine:=false }
abbrev CX0:CXT:=fun _ _ _ _ _ _=>False
abbrev E0:XK:=fun _ _ _=>False
theorem Dj:Passes CX0 X E0:=fun _ _ _ _ _ _ _ h=>h.elim
structure Fun (K:PySem.W.Frag) (x qual:Str) (st:cY) (f:av) (fd:dW):Prop where
 ex:∃ (oc:af) (od:Option av) (kV doc pm:af) (an:Option av) (cdv ct:af) (osl:Array (Option af)),
  fd = PySem.W.fnOf x qual (gz st) (eA st) (bA st) .none kV doc pm an cdv ct/\K.lookup f = some ⟨oc,od,.func fd,osl⟩/\PySem.W.codeIn K cdv qual = true
 kp:PySem.W.keepIn K (.ref f) = true
section
variable {P:aM} {w:bj} {K:PySem.W.Frag} {mg:Str->Option af} {base:bJ}
theorem Fun.binds {x qual:Str} {st:cY} {f:av} {fd:dW} {ps:List Str} (F:Fun K x qual st f fd)
 (h:∀ (kV doc pm:af) (an:Option av) (cdv ct:af) (us:List af),us.length = ps.length->bindArgs (PySem.W.fnOf x qual (gz st) (eA st) (bA st) .none kV doc pm an cdv ct) ⟨us,[]⟩ = pure (ps.zip us)):Binds K fd ps []:=by
 obtain ⟨oc,od,kV,doc,pm,an,cdv,ct,osl,rfl,lk,hcd⟩:=F.ex;exact .all (h kV doc pm an cdv ct)
theorem Ed {x qual:Str} {st:cY} {f:av} {oc:af} {od an:Option av} {osl:Array (Option af)} {kV doc pm cdv ct:af} (l:K.lookup f = some ⟨oc,od,.func (PySem.W.fnOf x qual (gz st) (eA st) (bA st) .none kV doc pm an cdv ct),osl⟩)
 (c:PySem.W.codeIn K cdv qual = true) (k:PySem.W.keepIn K (.ref f) = true):Fun K x qual st f (PySem.W.fnOf x qual (gz st) (eA st) (bA st) .none kV doc pm an cdv ct):=⟨⟨oc,od,kV,doc,pm,an,cdv,ct,osl,rfl,l,c⟩,k⟩
end
section
variable {X:Cx}
end
theorem iN {A B:Prop} (h:B):if false = true then A else B:=by
 rw [if_neg aq];exact h
theorem hZ {A B:Prop} (h:A):if true = true then A else B:=by
 rw [if_pos rfl];exact h
noncomputable def iO (H H':Hp):Prop:=∀ b o,H b = some o->H' b = some o
theorem iO.refl (H:Hp):iO H H:=fun _ _ h=>h
end L2
end
section
namespace L2
open PySem PySem.Spec PyProof.Rows
section
variable {κ:Type} [DecidableEq κ]
end
section
variable {P:aM} {w:bj} {H:Hp} {h:bJ} {a:av}
end
section
variable {X:Cx} {pins:List (av × Obj)} {σ:St} {H:Hp} {s:ai} {a:av} {y v:V} {u r:af} {o:Option V} {A:ba} {E:af->ai->Prop}
end
section
variable {X:Cx} {pins:List (av × Obj)} {σ:St} {H:Hp} {s:ai} {a:av} {kvs:List (Key × V)} {k:Key} {u:af} {A:ba} {E:af->ai->Prop}
end
section
variable {X:Cx} {o i e value:aE} {pos pos' tpos:Pos} {td ty tv:TE}
end
section
variable {X:Cx} {pos:Pos}
end
structure M1 (X:Cx) (o:aE) (m:Str) (apos:Pos) (e:aE) (cpos:Pos):Prop where
 base:attributeBase o m X.env (eval o X.env) = eval o X.env
 few:((backTo cpos (starEach [e] X.env)).all (fun x=>!x.1) && (backToKw cpos (keywordEach [] X.env)).all (fun x=>x.1.isSome)
  && decide (([e]:List aE).length+([]:List jz).length+(if ([]:List jz).isEmpty then 0 else 1) < 30)) = true
 line:(apos.endLine == cpos.line) = true
 trees:backTo cpos (starEach [e] X.env) = [(false,eval e X.env)]
structure M2 (X:Cx) (o:aE) (m:Str) (apos:Pos) (e f:aE) (cpos:Pos):Prop where
 base:attributeBase o m X.env (eval o X.env) = eval o X.env
 few:((backTo cpos (starEach [e,f] X.env)).all (fun x=>!x.1) && (backToKw cpos (keywordEach [] X.env)).all (fun x=>x.1.isSome)
  && decide (([e,f]:List aE).length+([]:List jz).length+(if ([]:List jz).isEmpty then 0 else 1) < 30)) = true
 line:(apos.endLine == cpos.line) = true
 trees:backTo cpos (starEach [e,f] X.env) = [(false,eval e X.env),(false,eval f X.env)]
section
variable {X:Cx} {pins:List (av × Obj)} {σ:St} {H:Hp} {s:ai} {a:av} {y d:V} {u r:af} {o:Option V} {A:ba} {E:af->ai->Prop}
end
section
variable {X:Cx} {o e f:aE} {apos cpos:Pos} {td ty tx:TE}
end
section
variable {X:Cx} {pins:List (av × Obj)} {σ:St} {H:Hp} {s:ai} {a:av} {kvs:List (Key × V)} {A:ba} {E:af->ai->Prop}
end
section
variable {X:Cx} {pins:List (av × Obj)} {σ:St} {H:Hp} {s:ai} {a:av} {y:V} {u:af} {A:ba} {E:af->ai->Prop}
end
abbrev TU:=St->Hp->(St->Hp->Prop)->Prop
noncomputable def PU (X:Cx) (m:Sem Unit) (t:TU):Prop :=
 ∀ (pins:List (av × Obj)) (s:ai) (σ:St) (H:Hp) (Q:St->Hp->Prop),Inv X pins σ H s->t σ H Q ->
  wpAny (model X.prog X.w) X.A m (fun _ s'=>∃ σ' H',Inv X pins σ' H' s'/\Q σ' H') X.xe s
noncomputable def PTs (X:Cx) (ifs:List aE) (t:TT):Prop :=
 ∀ (pins:List (av × Obj)) (s:ai) (σ:St) (H:Hp) (Q:Bool->Hp->Prop),Inv X pins σ H s->t σ H Q ->
  wpAny (model X.prog X.w) X.A (forIn ifs true fun c r=>if r = true then do let ok <- isTrue c X.env (eval c X.env);pure (jC ok) else pure (jC r)) (TP X pins σ Q) X.xe s
section
variable {X:Cx}
theorem yg:PTs X [] (fun _ H Q=>Q true H):=fun pins s σ H Q I h=>wpAny_tests_nil ⟨H,I,h⟩
theorem Gn (hc:PT X c t):PTs X [c] t:=fun pins s σ H Q I h=>wpAny_tests_one (hc pins s σ H Q I h)
noncomputable def tLp (J:It) (g:TG) (tt:TT) (tb:TU):TU:=fun σ H Q=>∃ W:Nat->Nat->St->Hp->Prop,(∃ m,W 0 m σ H)/\∀ i m σ H,W i m σ H ->
 (J.stop i H/\Q σ H)\/(J.go i H/\∀ x H',J.yld i H x H'->g x σ H' fun σ2 H2=>tt σ2 H2 fun b H3 =>
   if b = true then tb σ2 H3 fun σ4 H4=>∃ m',m' < m/\W (i+1) m' σ4 H4 else ∃ m',m' < m/\W (i+1) m' σ2 H3)
theorem yO
 (hx:X.xe = fun _ _=>False) (hc:X.calm = true)
 (hq:(Code.compLoop e d (.ref it) acc X.env).quiet = true)
 (hden:(model X.prog X.w).den (.compLoop e d (.ref it) acc X.env) = (compTurn e d (.ref it) acc X.env).onRaise (fun x=>do noteFrame x X.env;theTreesLotGoes x))
 (hund:X.A.under (.compLoop e d (.ref it) acc X.env) = X.A)
 (hturn:compTurn e d (.ref it) acc X.env = (do
   standAt ip
   match <- pyNext (.ref it) with
   | none=>pure (.done .next)
   | some v =>
     letOwnedTupleGo tg (.ref it) v
     assign tg X.env v
     let mut ok:=true
     for c in ifs do
      if ok then ok <- isTrue c X.env (eval c X.env)
     if ok then body
     again (.compLoop e d (.ref it) acc X.env)))
 (T:Turn X.prog X.w X.K tg J fp it tn) (hg:PG X tg g) (ht:PTs X ifs tt) (hb:PU X body tb) {R:xB->ai->Prop}
 {pins:List (av × Obj)} {s:ai} {σ:St} {H:Hp} {Q:St->Hp->Prop} (I:Inv X pins σ H s) (st:tn 0 s.heap) (f:∀ b∈fp,jX X pins H b) (h:tLp J g tt tb σ H Q)
 (hR:∀ s' σ' H',Inv X pins σ' H' s'->Q σ' H'->R (.ok .next) s'):codeAny (model X.prog X.w) X.A (.compLoop e d (.ref it) acc X.env) R s:=by
 obtain ⟨W,⟨m0,w0⟩,turn⟩:=h;have stat:∀ {H':Hp},(∀ b∈fp,H' b = none)->∀ b∈fp,jX X pins H' b:=fun hn b hb=>⟨hn b hb,(f b hb).2⟩;refine codeAny_loop hq (fun n s'=>∃ i σ' H',Inv X pins σ' H' s'/\tn i s'.heap/\(∀ b∈fp,H' b = none)/\W i n σ' H') ?_ m0 ⟨0,σ,H,I,st,fun b hb=>(f b hb).1,w0⟩;rintro n s3 ⟨i,σ3,H3,I3,st3,fr3,w3⟩;rw [hden,hund,hturn];refine wpAny_noted ?_
 have cut:∀ {α:Type} {m:Sem α} {Q:α->ai->Prop} {s:ai} {E':af->ai->Prop},wpAny (model X.prog X.w) X.A m Q X.xe s->wpAny (model X.prog X.w) X.A m Q E' s:=fun z=>by
  rw [hx] at z;exact wpAny_noRaise z
 refine ab (fu (ab ?_));rcases turn i n σ3 H3 w3 with ⟨stop,qn⟩ | ⟨go,step⟩
 . refine cut (thn (T.done X rfl rfl rfl hc i pins s3 σ3 H3 X.xe I3 (stat fr3) st3 stop) fun r s4 ⟨hr,I4⟩=>?_);subst hr;exact aw (hR s4 σ3 H3 I4 qn)
 . refine cut (thn (T.item X rfl rfl rfl hc i pins s3 σ3 H3 X.xe I3 (stat fr3) st3 go) fun r s4 ⟨u,hr,h4⟩=>?_);subst hr;refine ab (cut (thn h4 fun _ s5 ⟨x,H5,I5,r5,y5,st5,fr5⟩=>?_));have I5':=I5.pinned (stat fr5) (T.obj _ _ st5);refine ab (cut (thn (hg _ s5 σ3 H5 x u _ I5' r5 (step x H5 y5)) fun _ s6 ⟨σ6,H6,I6,q6⟩=>?_))
   have again:∀ {σ7:St} {H7:Hp} {s7:ai},Inv X (pins++pW fp s5.heap) σ7 H7 s7->(∃ m',m' < n/\W (i+1) m' σ7 H7)->∃ m,m < n/\∃ i σ' H',Inv X pins σ' H' s7/\tn i s7.heap/\(∀ b∈fp,H' b = none)/\W i m σ' H':=fun {σ7 H7 s7} I7 n7=>by
    obtain ⟨m',hm,w7⟩:=n7;refine ⟨m',hm,i+1,σ7,H7,I7.unpinned,T.keep _ _ _ st5 fun b hb o e=>(I7.pin (b,o) (aO _ (aO _ (jN hb e)))).1,fun b hb=>?_,w7⟩;obtain ⟨o,e,d⟩:=T.obj _ _ st5 b hb;exact (I7.pin (b,o) (aO _ (aO _ (jN hb e)))).2.1
   refine ab (cut (thn (ht _ s6 σ6 H6 _ I6 q6) fun ok s7 ⟨H7,I7,q7⟩=>?_))
   cases ok with
   | false =>
     rw [if_neg aq] at q7
     exact aw ⟨rfl,again I7 q7⟩
   | true =>
     rw [if_pos rfl] at q7;refine ab (cut (thn (hb _ s7 σ6 H7 _ I7 q7) fun _ s8 ⟨σ8,H8,I8,q8⟩=>?_));exact aw ⟨rfl,again I8 q8⟩
end
noncomputable def gR (env:Env):List (Str × jZ)->List (Str × av)->List (Str × av)
 | [],cs=>cs
 | (n,k)::r,cs=>gR env r (if k == .free then (n,(env.cells.lookup n).getD 0)::cs else cs)
theorem yP:∀ (names:List (Str × jZ)) (cs:List (Str × av)),(∀ x,(x,bQ)∈names->∃ c,env.cells.lookup x = some c) ->
 (forIn names cs fun x r=>match x with | (name,kind)=>(do
   if (kind == bQ) = true then do
    let y <- cellOf env name
    pure (jC ((name,y)::r))
   else pure (jC r):Sem (ForInStep (List (Str × av))))) = (pure (gR env names cs):Sem (List (Str × av)))
 | [],cs,_=>rfl
 | (n,k)::r,cs,h=>by
   have ih:=fun cs=>yP (env:=env) r cs fun x hx=>h x (au _ hx);rw [qB];by_cases hk:k = .free
   . subst hk;obtain ⟨c,e⟩:=h n ay;have e2:cellOf env n = pure c:=by unfold cellOf;rw [e]
     simp only [beq_self_eq_true,if_true,e2,pure_bind,gR,e,AV];exact ih _
   . have hb:(k == bQ) = false:=by simpa using hk
     simp only [hb,aZ,if_false,pure_bind,gR];exact ih _
theorem xm (h:∀ x,(x,bQ)∈scope.names->∃ c,env.cells.lookup x = some c):closureFor scope env = pure (gR env scope.names []):=by
 have q:=yP (env:=env) scope.names [] h;unfold closureFor;rw [<- bind_pure (pure (gR env scope.names []):Sem _),<- q]
theorem tY:∀ (names:List (Str × jZ)) (cs:List (Str × av)),(∀ x,(x,bQ)∈names->∃ c,env.cells.lookup x = some c)->∀ p∈gR env names cs,p∈cs\/env.cells.lookup p.1 = some p.2
 | [],cs,_,p,hp=>.inl hp
 | (n,k)::r,cs,h,p,hp=>by
   unfold gR at hp;have ih:=tY (env:=env) r _ (fun x hx=>h x (au _ hx)) p hp;rcases ih with ih | ih
   . by_cases hk:k = .free
     . subst hk;rw [if_pos (by simp)] at ih;rcases aC.mp ih with rfl | ih
       . obtain ⟨c,e⟩:=h n ay;right;rw [e];rfl
       . exact .inl ih
     . rw [if_neg (by simpa using hk)] at ih;exact .inl ih
   . exact .inr ih
theorem tZ:∀ (names:List (Str × jZ)) (cs:List (Str × av)) (x:Str),((x,bQ)∈names\/∃ c,(x,c)∈cs)->∃ c,(x,c)∈gR env names cs
 | [],cs,x,h=>by
   rcases h with h | h
   . cases h
   . exact h
 | (n,k)::r,cs,x,h=>by
   unfold gR;refine tZ (env:=env) r _ x ?_;rcases h with h | ⟨c,h⟩
   . rcases aC.mp h with e | h
     . cases e;right;rw [if_pos (by simp)];exact ⟨_,ay⟩
     . exact .inl h
   . right;split
     . exact ⟨c,au _ h⟩
     . exact ⟨c,h⟩
theorem jh {α:Type}:∀ {l:List (Str × α)} {x:Str} {c:α},(x,c)∈l->∃ d,l.lookup x = some d
 | [],_,_,h=>by cases h
 | (y,d)::r,x,c,h=>by
   rw [bT]
   cases e:x == y with
   | true=>exact ⟨d,rfl⟩
   | false =>
     rcases aC.mp h with q | q
     . cases q;simp at e
     . exact jh q
structure nQ (X:Cx) (scope:dS):Prop where
 kind:scope.kind = .function
 nocell:∀ y∈scope.names,y.2≠.cell
 names:∀ y∈scope.names,y.2 = .local->scope.names.lookup y.1 = some .local
 free:∀ x,(x,bQ)∈scope.names->X.env.kindOf x = some .cell\/X.env.kindOf x = some .free
noncomputable def cxC (X:Cx) (scope:dS) (cl:List (Str × av)) (C:av) (Nc:List Str) (s:ai) (H:Hp) (fp:List av):Cx :=
 { X with N:=Nc,s₀:=s,H₀:=H,env:=compEnvC scope cl C X.env,outer:=X.stack,ex:=fp,fn:=fun _=>false,pn:=[],xe:=fun _ _=>False }
theorem iC {scope:dS} {env:Env}:∀ (names:List (Str × jZ)) (x:Str),
 (names.map fun (n,k)=>if (k == bQ && env.scope.kind == .function && env.kindOf n == some .cell) then (n,lx) else (n,k)).lookup x =
   (names.lookup x).map fun k=>if (k == bQ && env.scope.kind == .function && env.kindOf x == some .cell) then lx else k
 | [],x=>rfl
 | (n,k)::r,x=>by
   have ih:=iC (scope:=scope) (env:=env) r x;rw [aU]
   cases hx:x == n with
   | true =>
     have e:x = n:=by simpa using hx
     subst e;by_cases hc:(k == bQ && env.scope.kind == .function && env.kindOf x == some .cell) = true
     . simp only [hc,if_true,bT,beq_self_eq_true,da]
     . simp only [hc,if_false,bT,beq_self_eq_true,da,aZ]
   | false =>
     by_cases hc:(k == bQ && env.scope.kind == .function && env.kindOf n == some .cell) = true
     . simp only [hc,if_true,bT,hx];exact ih
     . simp only [hc,if_false,bT,hx,aZ];exact ih
theorem nJ {scope:dS} {env:Env} {cl:List (Str × av)} {C:av} (x:Str):(compEnvC scope cl C env).kindOf x =
 (scope.names.lookup x).map fun k=>if (k == bQ && env.scope.kind == .function && env.kindOf x == some .cell) then lx else k:=iC (scope:=scope) (env:=env) scope.names x
theorem qI (nc:∀ y∈scope.names,y.2≠.cell) (h:(compEnvC scope cl C env).kindOf x = some .cell\/(compEnvC scope cl C env).kindOf x = some .free) :
 scope.names.lookup x = some .free:=by
 rw [nJ] at h
 cases e:scope.names.lookup x with
 | none=>rw [e] at h;simp at h
 | some k =>
   rw [e] at h;have hm:=PySem.mem_of_lookup e;have:=nc _ hm;simp only [da] at h;cases k<;>simp_all
theorem nE {X:Cx} {scope:dS} {C:av} {Nc:List Str} {s:ai} {h1:bJ} {t1:Nat} {H:Hp} {fp:List av} {pins:List (av × Obj)} {σ:St}
 (S:nQ X scope) (I:Inv X pins σ H s) (hf:∀ b∈fp,jX X pins H b) (hfl:∀ b∈fp,b < s.heap.objs.size) (hC:C = s.heap.objs.size) (hns:h1.Ns C fun _=>none) (hk:∀ b o,s.heap.get? b = some o->h1.get? b = some o)
 (hN:∀ i x,i < X.N.length->Nc[i]? = some x->Vis scope x->X.N[i]? = some x/\scope.names.lookup x = some .free) (hl:X.N.length<=Nc.length) :
 Inv (cxC X scope (gR X.env scope.names []) C Nc s H fp) [] (σ++aN (Nc.length - X.N.length) none) H { s with heap:=h1,toks:=t1 }:=by
 have hcl:∀ x,(x,bQ)∈scope.names->∃ c,X.env.cells.lookup x = some c:=fun x hx=>I.ok.has x (S.free x hx)
 have hlk:∀ x c,(gR X.env scope.names []).lookup x = some c->X.env.cells.lookup x = some c:=fun x c e=>by
  have:=tY scope.names [] hcl _ (PySem.mem_of_lookup e);rcases this with z | z
  . cases z
  . exact z
 subst hC
 have neC:∀ x c,(gR X.env scope.names []).lookup x = some c->c < s.heap.objs.size:=fun x c e=>by
  obtain ⟨v,z⟩:=I.cell x c (hlk x c e);exact z.lt
 refine ⟨⟨I.ok.mod,S.kind,I.ok.glob,I.ok.blt,aB _,fun x y c e1 e2=>I.ok.inj x y c (hlk x c e1) (hlk y c e2),fun x hx=>?_,fun x c z _=>absurd z aq,I.ok.hd,I.ok.frames,.inl rfl,fun b hb=>⟨aJ (hfl b hb),fun x c e=>(hf b hb).2.2.2.2.1 x c (hlk x c e)⟩,
  I.bs,bc I.ok.bsz I.sz,fun b o e hb=>?_,fun b hb hz=>?_,I.stack,I.stkFree⟩,rfl,I.bare,Un.kept hk,⟨_,hns,fun i x v e1 e2 e3=>?_⟩,fun x c e=>?_,I.hok.fresh (aB _),fun x c e=>I.freeC x c (hlk x c e),fun p hp=>absurd (show p∈([]:List (av × Obj)) from hp) (by simp),I.hok.kept hk,?_⟩
 . have q:=qI (cl:=gR X.env scope.names []) (C:=s.heap.objs.size) S.nocell hx;obtain ⟨c,hm⟩:=tZ (env:=X.env) scope.names [] x (.inl (PySem.mem_of_lookup q));exact jh hm
 . obtain ⟨_,_,_,f3,_⟩:=hf b hb;rcases f3 with z | z
   . exact I.ok.noex b o e z
   . exact absurd (aS (aA e) (bc I.ok.bsz z)) (cu _)
 . obtain ⟨_,f1,f2,_⟩:=hf b hb;rcases aC.mp (I.stkSub b hz) with q | q
   . exact f1 q
   . exact f2 q
 . have e1:Nc[i]? = some x:=e1
   have hi:i < X.N.length:=by
    by_cases hi:i < X.N.length
    . exact hi
    . rw [br (by rw [I.len];omega),di] at e2;split at e2<;>cases e2
   rw [aW (by rw [I.len];exact hi)] at e2
   have vis:Vis scope x:=by
    have e3:Vis (relabel scope X.env) x:=e3;unfold Vis relabel at e3;rw [iC (scope:=scope)] at e3;unfold Vis
    cases q:scope.names.lookup x with
    | none=>rw [q] at e3;simp at e3
    | some k =>
      rw [q] at e3;simp only [da] at e3;have:=S.nocell _ (PySem.mem_of_lookup q);cases k<;>simp_all
   obtain ⟨n1,n2⟩:=hN i x hi e1 vis;obtain ⟨m,hn,hl'⟩:=I.loc;have kd:=S.free x (PySem.mem_of_lookup n2)
   have visX:Vis X.env.scope x:=by
    rcases kd with z | z
    . exact .inr (.inl z)
    . exact .inr (.inr z)
   obtain ⟨u,r,l⟩:=hl' i x v n1 e2 visX;refine ⟨u,r,.inr ?_⟩;rcases l with ⟨k,_⟩ | ⟨k,c,ec,z⟩
   . rcases kd with z | z
     . rw [z] at k;cases k
     . rw [z] at k;cases k
   . obtain ⟨c',hm⟩:=tZ (env:=X.env) scope.names [] x (.inl (PySem.mem_of_lookup n2));obtain ⟨c2,hc2⟩:=jh hm;have:=hlk x c2 hc2;rw [ec] at this;cases this;refine ⟨?_,c,hc2,?_⟩
     . show (compEnvC scope (gR X.env scope.names []) s.heap.objs.size X.env).kindOf x = some .cell\/(compEnvC scope (gR X.env scope.names []) s.heap.objs.size X.env).kindOf x = some .free;rw [nJ,n2];simp only [da];split
       . exact .inl rfl
       . exact .inr rfl
     . obtain ⟨o,ho,hd⟩:=z;exact ⟨o,hk _ _ ho,hd⟩
 . obtain ⟨v,o,ho,hd⟩:=I.cell x c (hlk x c e);exact ⟨v,o,hk _ _ ho,hd⟩
 . show _ = Nc.length;rw [aj,du,I.len];omega
noncomputable def BW (D:av) (te:TE):TU:=fun σ H Q=>te σ H fun y H'=>∃ xs,H' D = some (.lst xs)/\xs.length < sizeLine/\Q σ (upd H' D (.lst (xs++[y])))
theorem yf (he:PE X elt te):PU X (do let _ <- call (.builtin "list.append") [.ref D,<- eval elt X.env]) (BW D te):=by
 intro pins s σ H Q I h;refine ab (thn (he pins s σ H _ I h) fun u s1 ⟨y,H1,I1,r1,xs,hD,hz,q⟩=>?_);refine ab (thn (rE pins s1 σ H1 (.ref D) [y] (.ref D) [u] (fun _ H'=>Q σ H') I1 rfl (.cons r1 .nil) ⟨D,xs,y,rfl,rfl,hD,hz,q⟩) fun _ s2 ⟨_,H2,I2,_,q2⟩=>?_);exact aw ⟨σ,H2,I2,q2⟩
noncomputable def tLC (k:Nat) (wi:TI) (g:TG) (tt:TT) (te:TE):TE:=fun σ H Q=>wi σ H fun J H1=>∀ D,H1 D = none ->
 tLp J g tt (BW D te) (σ++aN k none) (upd H1 D (.lst [])) fun _ H2=>Q (.ref D) H2
theorem lN
 (I:Inv X pins σ H s) (hf:∀ b∈fp,jX X pins H b) (hC:C = s.heap.objs.size) (J:Inv (cxC X scope cl C Nc s H fp) [] σ' H' s') (hs:fI C s'.heap h2):Inv X pins σ H' { s' with heap:=h2 }:=by
 have hok:HOk X.prog X.w H' h2:=fun b ob e=>by
  refine (J.hok b ob e).stay (fun c w' hc q=>(hs.2 c ?_).trans q) (fun _ q=>q) fun _ _ q=>q;rintro rfl;have fr:H' c = none:=J.free;rcases hc with rfl | hc
  . rw [fr] at e;cases e
  . rw [fr] at hc;cases hc
 have neC:∀ b o,s.heap.get? b = some o->b≠C:=fun b o e=>by rw [hC];exact aJ (aA e)
 refine I.call' (s':={ s' with heap:=h2 }) (ch:=fp) J.os ⟨fun b o e n hb hx=>?_,fun b o e n hb hx=>?_,fun b o e n hx=>J.base.free b o e n hx,fun b o e hx=>?_,J.base.tups,J.base.frzs,J.base.tbls⟩ hok J.bare fun b hb=>?_
 . exact (hs.2 b (neC b o e)).trans (J.base.keep b o e n hb hx)
 . obtain ⟨sl,z⟩:=J.base.slot b o e n hb hx;exact ⟨sl,(hs.2 b (neC b o e)).trans z⟩
 . obtain ⟨o',z⟩:=J.base.there b o e hx;exact ⟨o',(hs.2 b (neC b o e)).trans z⟩
 . obtain ⟨f0,f1,f2,f3,f4,f5⟩:=hf b hb;exact ⟨f3,f1,f4,f5⟩
theorem lO
 (S:nQ X scope) (I:Inv X pins σ H s) (hf:∀ b∈fp,jX X pins H b) (hfl:∀ b∈fp,b < s.heap.objs.size) (hC:C = s.heap.objs.size) (hn:∀ b∈fp,H' b = none) :
 ∀ b∈fp,jX (cxC X scope (gR X.env scope.names []) C Nc s H fp) [] H' b:=fun b hb=>by
 have hcl:∀ x,(x,bQ)∈scope.names->∃ c,X.env.cells.lookup x = some c:=fun x hx=>I.ok.has x (S.free x hx);obtain ⟨f0,f1,f2,f3,f4,f5⟩:=hf b hb;refine ⟨hn b hb,?_,fun z=>?_,.inl hb,fun x c e=>?_,fun p hp=>absurd (show p∈([]:List (av × Obj)) from hp) (by simp)⟩
 . show b≠C;rw [hC];exact aJ (hfl b hb)
 . rcases aC.mp (I.stkSub b z) with q | q
   . exact f1 q
   . exact f2 q
 . have:=tY scope.names [] hcl _ (PySem.mem_of_lookup e);rcases this with z | z
   . cases z
   . exact f4 x c z
theorem Dh
 (hx:X.xe = fun _ _=>False) (hc:X.calm = true) (S:nQ X scope) (hN:∀ i x,i < X.N.length->Nc[i]? = some x->Vis scope x->X.N[i]? = some x/\scope.names.lookup x = some .free) (hl:X.N.length<=Nc.length)
 (hi:PI X tg iter wi) (hg:∀ cl C s H fp,PG (cxC X scope cl C Nc s H fp) tg g) (ht:∀ cl C s H fp,PTs (cxC X scope cl C Nc s H fp) ifs tt) (he:∀ cl C s H fp,PE (cxC X scope cl C Nc s H fp) elt te)
 (hs:∀ x,foldedSetIterable iter X.env x = pure x):PE X (.ListComp elt [⟨tg,iter,ifs,0⟩] scope pos) (tLC (Nc.length - X.N.length) wi g tt te):=by
 intro pins s σ H Q I h;rw [eval_ListComp]
 have cutE:∀ {α:Type} {m:Sem α} {Q:α->ai->Prop} {s:ai} {E':af->ai->Prop},wpAny (model X.prog X.w) X.A m Q X.xe s->wpAny (model X.prog X.w) X.A m Q E' s:=fun z=>by
  rw [hx] at z;exact wpAny_noRaise z
 refine kI (use:=none) rfl hs (xm fun x hz=>I.ok.has x (S.free x hz)) S.kind S.names (thn (hi pins s σ H _ I h) fun v s1 h1=>thn h1 fun itv s2 h2=>?_);obtain ⟨it,fp,tn,J,H2,e,I2,T,st2,f2,q⟩:=h2;subst e;refine aR (hd:=by size_fits) ?_;have hfr:=I2.fresh;have I3:Inv X pins σ (upd H2 s2.heap.objs.size (.lst [])) { s2 with heap:=s2.heap.push { cls:=.type "list",data:=.seq ([]:List af).toArray } }:=I2.lnew (t':=s2.toks) (its:=[]) .nil (cZ _);have st3:tn 0 (s2.heap.push { cls:=.type "list",data:=.seq ([]:List af).toArray }):=T.keep _ _ _ st2 fun b _ o e=>ah _ e
 have fl3:∀ b∈fp,b < s2.heap.objs.size:=fun b hb=>by
  obtain ⟨o,e,_⟩:=T.obj _ _ st2 b hb;exact aA e
 have ne3:∀ b∈fp,upd H2 s2.heap.objs.size (.lst []) b = none:=fun b hb=>by rw [bq (aJ (fl3 b hb))];exact (f2 b hb).1
 have f3:∀ b∈fp,jX X pins (upd H2 s2.heap.objs.size (.lst [])) b:=fun b hb=>⟨ne3 b hb,(f2 b hb).2⟩;have q3:=q s2.heap.objs.size hfr;generalize hH3:upd H2 s2.heap.objs.size (.lst []) = H3 at I3 ne3 f3 q3;generalize hs3:({ s2 with heap:=s2.heap.push { cls:=.type "list",data:=.seq ([]:List af).toArray } }:ai) = s3 at I3;have hs3h:s3.heap = s2.heap.push { cls:=.type "list",data:=.seq ([]:List af).toArray }:=by rw [<- hs3]
 rw [<- hs3h] at st3;have fl4:∀ b∈fp,b < s3.heap.objs.size:=fun b hb=>by rw [hs3h,bH];exact bK (fl3 b hb)
 refine iP S.nocell (by intro y hy;simp at hy) (fun h1 hns hsb=>?_) S.kind;have keep1:∀ b o,s3.heap.get? b = some o->h1.get? b = some o:=fun b o e=>hsb.extBut b o (aJ (aA e)) (ah _ e);have J0:=nE (h1:=h1) (t1:=s3.toks+([]:List (Str × af)).length) S I3 f3 fl4 rfl (by simpa using hns) keep1 hN hl;have st4:tn 0 h1:=T.keep _ _ _ st3 fun b _ o e=>keep1 b o e
 have loop:∀ s4:ai,s4 = { s3 with heap:=h1,toks:=s3.toks+([]:List (Str × af)).length } ->
  codeAny (model X.prog X.w) X.A (.compLoop (.ListComp elt [⟨tg,iter,ifs,0⟩] scope pos) 0 (.ref it) (.ref s2.heap.objs.size) (compEnvC scope (gR X.env scope.names []) s3.heap.objs.size X.env))
   (compPost (model X.prog X.w) X.A X.xe none (EP X pins σ Q) (.ref s2.heap.objs.size) s3.heap.objs.size) s4:=by
  rintro s4 rfl
  refine yO (X:=cxC X scope (gR X.env scope.names []) s3.heap.objs.size Nc s3 H3 fp) (ip:=iter.pos) (body:=(do let _ <- call (.builtin "list.append") [.ref s2.heap.objs.size,<- eval elt (compEnvC scope (gR X.env scope.names []) s3.heap.objs.size X.env)]))
   rfl hc rfl rfl rfl (by rw [compTurn_list]<;>rfl) T (hg _ _ _ _ _) (ht _ _ _ _ _) (yf (he _ _ _ _ _)) J0 st4 (lO S I3 f3 fl4 rfl ne3) q3 ?_
  intro s' σ' H' J' q';obtain ⟨m,hn,_⟩:=J'.loc;exact ⟨m,hn,fun h2 hs2=>⟨.ref s2.heap.objs.size,H',lN I3 f3 rfl J' hs2,rfl,q'⟩⟩
 exact ER (loop _ rfl) (T.self _ _ _ _ _ st4 (loop _ rfl))
theorem CV
 (hx:X.xe = fun _ _=>False) (hc:X.calm = true) (S:nQ X scope) (hN:∀ i x,i < X.N.length->Nc[i]? = some x->Vis scope x->X.N[i]? = some x/\scope.names.lookup x = some .free) (hl:X.N.length<=Nc.length)
 (hi:PI X tg iter wi) (hg:∀ cl C s H fp,PG (cxC X scope cl C Nc s H fp) tg g) (ht:∀ cl C s H fp,PTs (cxC X scope cl C Nc s H fp) ifs tt) (he:∀ cl C s H fp,PE (cxC X scope cl C Nc s H fp) elt te)
 (hs:∀ x,foldedSetIterable iter X.env x = pure x)
 (hNd:X.N.Nodup) (hy:X.N[i]? = some y) (hv:Loc X.env.scope y) (hf:X.fn y = true\/X.env.scope.names.lookup y = some .local)
 (hsw:swapsWith (.ListComp elt [⟨tg,iter,ifs,0⟩] scope pos) (some (.Name y py)) spos.line X.env = pure true) :
 PS X (.Assign [.Name y py] (.ListComp elt [⟨tg,iter,ifs,0⟩] scope pos) spos) (Fy (tLC (Nc.length - X.N.length) wi g tt te) (vm i)):=by
 intro pins s σ H Q I h;rw [exec_Assign_Name_used _ _ _ _ hsw];refine ab (fu (ab ?_));show wpAny _ X.A (do let _ <- comprehension (.ListComp elt [⟨tg,iter,ifs,0⟩] scope pos) scope X.env _ (newList []) false (eval iter X.env) (some (assign (.Name y py) X.env))) _ _ s
 refine ab (iJ (kI (use:=some (assign (.Name y py) X.env)) (Q:=fun _ s'=>SP X pins Q .next s') rfl hs (xm fun x hz=>I.ok.has x (S.free x hz)) S.kind S.names
  (thn (hi pins s σ H _ I h) fun v s1 h1=>thn h1 fun itv s2 h2=>?_)) (fun _ s' hq=>aw (aw hq)) fun _ _ e=>e)
 obtain ⟨it,fp,tn,J,H2,e,I2,T,st2,f2,q⟩:=h2;subst e;refine aR (hd:=by size_fits) ?_;have hfr:=I2.fresh;have I3:Inv X pins σ (upd H2 s2.heap.objs.size (.lst [])) { s2 with heap:=s2.heap.push { cls:=.type "list",data:=.seq ([]:List af).toArray } }:=I2.lnew (t':=s2.toks) (its:=[]) .nil (cZ _);have st3:tn 0 (s2.heap.push { cls:=.type "list",data:=.seq ([]:List af).toArray }):=T.keep _ _ _ st2 fun b _ o e=>ah _ e
 have fl3:∀ b∈fp,b < s2.heap.objs.size:=fun b hb=>by
  obtain ⟨o,e,_⟩:=T.obj _ _ st2 b hb;exact aA e
 have ne3:∀ b∈fp,upd H2 s2.heap.objs.size (.lst []) b = none:=fun b hb=>by rw [bq (aJ (fl3 b hb))];exact (f2 b hb).1
 have f3:∀ b∈fp,jX X pins (upd H2 s2.heap.objs.size (.lst [])) b:=fun b hb=>⟨ne3 b hb,(f2 b hb).2⟩;have q3:=q s2.heap.objs.size hfr;generalize hH3:upd H2 s2.heap.objs.size (.lst []) = H3 at I3 ne3 f3 q3;generalize hs3:({ s2 with heap:=s2.heap.push { cls:=.type "list",data:=.seq ([]:List af).toArray } }:ai) = s3 at I3;have hs3h:s3.heap = s2.heap.push { cls:=.type "list",data:=.seq ([]:List af).toArray }:=by rw [<- hs3]
 rw [<- hs3h] at st3;have fl4:∀ b∈fp,b < s3.heap.objs.size:=fun b hb=>by rw [hs3h,bH];exact bK (fl3 b hb)
 refine iP S.nocell (by intro y hy;simp at hy) (fun h1 hns hsb=>?_) S.kind;have keep1:∀ b o,s3.heap.get? b = some o->h1.get? b = some o:=fun b o e=>hsb.extBut b o (aJ (aA e)) (ah _ e);have J0:=nE (h1:=h1) (t1:=s3.toks+([]:List (Str × af)).length) S I3 f3 fl4 rfl (by simpa using hns) keep1 hN hl;have st4:tn 0 h1:=T.keep _ _ _ st3 fun b _ o e=>keep1 b o e
 have loop:∀ s4:ai,s4 = { s3 with heap:=h1,toks:=s3.toks+([]:List (Str × af)).length } ->
  codeAny (model X.prog X.w) X.A (.compLoop (.ListComp elt [⟨tg,iter,ifs,0⟩] scope pos) 0 (.ref it) (.ref s2.heap.objs.size) (compEnvC scope (gR X.env scope.names []) s3.heap.objs.size X.env))
   (compPost (model X.prog X.w) X.A X.xe (some (assign (.Name y py) X.env)) (fun _ s'=>SP X pins Q .next s') (.ref s2.heap.objs.size) s3.heap.objs.size) s4:=by
  rintro s4 rfl
  refine yO (X:=cxC X scope (gR X.env scope.names []) s3.heap.objs.size Nc s3 H3 fp) (ip:=iter.pos) (body:=(do let _ <- call (.builtin "list.append") [.ref s2.heap.objs.size,<- eval elt (compEnvC scope (gR X.env scope.names []) s3.heap.objs.size X.env)]))
   rfl hc rfl rfl rfl (by rw [compTurn_list]<;>rfl) T (hg _ _ _ _ _) (ht _ _ _ _ _) (yf (he _ _ _ _ _)) J0 st4 (lO S I3 f3 fl4 rfl ne3) q3 ?_
  intro s' σ' H' J' q';have hC:H' s3.heap.objs.size = none:=J'.free;obtain ⟨m,hn,_⟩:=J'.loc;have hn:s'.heap.Ns s3.heap.objs.size m:=hn
  -- the frame's state,the block's own names still there
  have I4:Inv X pins σ H' s':=lN I3 f3 rfl J' (um _ _);obtain ⟨oc,es,ep,ho,hd,hr⟩:=id hn;have above:X.s₀.heap.objs.size<=s3.heap.objs.size:=I3.sz;have hL:s3.heap.objs.size≠X.env.locals:=fK I3.lt;have hfs:s3.heap.objs.size∉X.fs:=I3.nofs (aB _)
  have I5:Inv X (pins++[(s3.heap.objs.size,oc)]) σ H' s':=I4.pins_of fun p hp=>by
   rcases aP.mp hp with hp | hp
   . exact I4.pin p (aO _ hp)
   . have:p = (s3.heap.objs.size,oc):=by simpa using hp
     subst this;exact ⟨ho,hC,hL,hfs,fun v z=>by rw [hd] at z;cases z⟩
  show wpAny _ _ (assign (.Name y py) X.env (.ref s2.heap.objs.size)) _ _ _;refine Ll (ku (v:=.ref s2.heap.objs.size) I5 hNd hy hv rfl (fun s5 I6=>?_) hf);have hp6:=I6.pin (s3.heap.objs.size,oc) (aO _ (aO _ (by simp)));refine ⟨m,⟨oc,es,ep,hp6.1,hd,hr⟩,fun h' hsb'=>?_⟩;have I7:Inv X pins (σ.set i (some (.ref s2.heap.objs.size))) H' s5:=I6.unpinned;refine ⟨_,H',I7.turned (h':=h') (t':=s5.toks) (it:=s3.heap.objs.size) (fun b o hb e=>(hsb'.2 b hb).trans e) hC hL (.inr above) (fun x c e z=>?_) (fun p hp z=>?_),q'⟩
  . obtain ⟨v,o,hoc,hdc⟩:=I3.cell x c e;have:=aA hoc;rw [z] at this;exact absurd this (cu _)
  . have hq:=(I3.pin p hp).1;have:=aA hq;rw [z] at this;exact absurd this (cu _)
 exact ER (loop _ rfl) (T.self _ _ _ _ _ st4 (loop _ rfl))
section
variable {X:Cx}
noncomputable def Ny:V->Option Int->Option Int->Hp->VK->Prop:=fun x lo hi H Q=>∃ t,x = .str t/\t.length<=sizeLine/\Q (.str (Txt.slice t lo hi)) H
theorem part_of {v:af} {lo:Option Int} (h:qy v lo):∃ l:Option (Int × Tok),v = partValue l/\l.map (·.1) = lo:=by
 cases h with
 | none=>exact ⟨none,rfl,rfl⟩
 | int i t=>exact ⟨some (i,t),rfl,rfl⟩
theorem Jd:SlR X Ny:=by
 intro pins s σ H x v vl vu lo hi sl Q I rx hs pl pu h;obtain ⟨t,rfl,hz,q⟩:=h;obtain ⟨k,rfl⟩:=rx;obtain ⟨l,rfl,rfl⟩:=part_of pl;obtain ⟨u,rfl,rfl⟩:=part_of pu;refine ⟨"str",_,PySem.F.slot_str_getitem.lookup,xx _ _ _,wpAny_getItem_str_slice (l:=l) (u:=u) (st:=none) hs rfl ?_⟩;exact post_val_or_str ⟨bc (Txt.slice_le t _ _) hz,fun t' k=>⟨.str _,H,I.tok _,⟨_,rfl⟩,q⟩⟩
end
end L2
end
section
namespace PP
open PySem PySem.W PyProof.Rows
noncomputable def ans {α:Type} (lt:Nat->Nat->Bool):KasT α->α
 | .ret a=>a
 | .ask i j k=>ans lt (k (lt i j))
theorem dz {α β:Type} (lt:Nat->Nat->Bool) (f:α->KasT β):∀ t:KasT α,ans lt (t.bind f) = ans lt (f (ans lt t))
 | .ret a=>rfl
 | .ask i j k=>by
   show ans lt ((k (lt i j)).bind f) = _;rw [dz lt f (k (lt i j))];rfl
theorem fq {α:Type} (lt:Nat->Nat->Bool) (i j:Nat) (k:Bool->KasT α):ans lt (.ask i j k) = ans lt (k (lt i j)):=rfl
theorem ij {α:Type} (lt:Nat->Nat->Bool) (a:α):ans lt (.ret a) = a:=rfl
structure Ord (lt:Nat->Nat->Bool):Prop where
 as:∀ a b,lt a b = true->lt b a = false
 tr:∀ a b c,lt b a = false->lt c b = false->lt c a = false
section
variable {lt:Nat->Nat->Bool} (O:Ord lt)
noncomputable def Up (lt:Nat->Nat->Bool) (p:Array Nat) (m:Nat):Prop:=∀ i j,i<=j->j < m->lt (p.getD j 0) (p.getD i 0) = false
noncomputable def Dn' (lt:Nat->Nat->Bool) (p:Array Nat) (m:Nat):Prop:=∀ i j,i<=j->j < m->lt (p.getD i 0) (p.getD j 0) = false
include O
theorem Ord.refl (a:Nat):lt a a = false:=by
 cases h:lt a a with
 | false=>rfl
 | true=>have:=O.as a a h;rw [h] at this;cases this
theorem Up.one (p:Array Nat):Up lt p 1:=fun i j h1 h2=>by
 have e1:j = 0:=by lia
 have e2:i = 0:=by lia
 subst e1;subst e2;exact O.refl _
theorem Up.more {p:Array Nat} {n:Nat} (h:Up lt p n) (hn:1<=n) (h2:lt (p.getD n 0) (p.getD (n - 1) 0) = false):Up lt p (n+1):=fun i j h3 h4=>by
 by_cases e:j = n
 . subst e;by_cases e':i = j
   . subst e';exact O.refl _
   . exact O.tr _ _ _ (h i (j - 1) (by lia) (by lia)) h2
 . exact h i j h3 (by lia)
theorem Dn'.more {p:Array Nat} {n:Nat} (h:Dn' lt p n) (hn:1<=n) (h2:lt (p.getD (n - 1) 0) (p.getD n 0) = false):Dn' lt p (n+1):=fun i j h3 h4=>by
 by_cases e:j = n
 . subst e;by_cases e':i = j
   . subst e';exact O.refl _
   . exact O.tr _ _ _ h2 (h i (j - 1) (by lia) (by lia))
 . exact h i j h3 (by lia)
theorem xp (p:Array Nat):∀ (f n:Nat),1<=n->Up lt p n->n<=ans lt (kas_asc p f n)/\ans lt (kas_asc p f n)<=n+f/\Up lt p (ans lt (kas_asc p f n))/\(ans lt (kas_asc p f n) < n+f->lt (p.getD (ans lt (kas_asc p f n)) 0) (p.getD (ans lt (kas_asc p f n) - 1) 0) = true)
 | 0,n,_,h=>⟨aB _,aB _,h,fun z=>absurd z (cu _)⟩
 | f+1,n,hn,h=>by
   unfold kas_asc;rw [fq]
   cases c:lt (p.getD n 0) (p.getD (n - 1) 0) with
   | true =>
     rw [if_pos rfl,ij]
     exact ⟨aB _,by lia,h,fun _=>c⟩
   | false =>
     rw [if_neg aq];obtain ⟨a1,a2,a3,a4⟩:=xp p f (n+1) (by lia) (h.more O hn c);exact ⟨by lia,by lia,a3,fun z=>a4 (by lia)⟩
omit O in
theorem getD_eq (p:Array Nat) (k:Nat):p.getD k 0 = (p[k]?).getD 0:=by
 simp [Array.getD_eq_getD_getElem?]
omit O in
theorem iS (hj:j<=p.size) (k:Nat):(kas_rev p i j).getD k 0 = if i<=k/\k < j then p.getD (i+j - 1 - k) 0 else p.getD k 0:=by
 rw [getD_eq,kas_rev,getElem?_mirror hj ((j - i) / 2) (by lia) k];by_cases h:i<=k/\k < j
 . rw [if_pos h];by_cases h2:(i<=k/\k < i+(j - i) / 2)\/(j - (j - i) / 2<=k/\k < j)
   . rw [if_pos h2,getD_eq]
   . rw [if_neg h2,getD_eq];have:i+j - 1 - k = k:=by lia
     rw [this]
 . rw [if_neg h];by_cases h2:(i<=k/\k < i+(j - i) / 2)\/(j - (j - i) / 2<=k/\k < j)
   . exfalso;lia
   . rw [if_neg h2,getD_eq]
omit O in
theorem iB (p:Array Nat) (i j:Nat):(kas_rev p i j).size = p.size:=mirror_size _ _ _ _
omit O in
theorem eB (p:Array Nat) (i j:Nat):(kas_rev p i j).Perm p:=mirror_perm _ _ _ _
theorem Dn'.rev (h:Dn' lt p n) (hn:n<=p.size):Up lt (kas_rev p 0 n) n:=fun i j h1 h2=>by
 rw [iS hn,iS hn,if_pos ⟨by lia,h2⟩,if_pos ⟨by lia,by lia⟩];exact h _ _ (by lia) (by lia)
noncomputable def Eqv (lt:Nat->Nat->Bool) (p:Array Nat) (a b:Nat):Prop:=∀ i j,a<=i->i < b->a<=j->j < b->lt (p.getD i 0) (p.getD j 0) = false
theorem Dn'.turn (h:Dn' lt p n) (hn:n<=p.size) (e:Eqv lt p a n):Dn' lt (kas_rev p a n) n:=fun i j h1 h2=>by
 rw [iS hn,iS hn];by_cases hi:a<=i
 . rw [if_pos ⟨hi,by lia⟩,if_pos ⟨by lia,h2⟩];exact e _ _ (by lia) (by lia) (by lia) (by lia)
 . rw [if_neg (by lia)];by_cases hj:a<=j
   . rw [if_pos ⟨hj,h2⟩];exact h _ _ (by lia) (by lia)
   . rw [if_neg (by lia)];exact h _ _ h1 h2
theorem oW:∀ (f:Nat) (p:Array Nat) (n q:Nat),1<=n->q < n->n+f<=p.size->Dn' lt p n->Eqv lt p (n - (q+1)) n ->
 let r:=ans lt (kas_desc f p n q)
 r.1.size = p.size/\r.1.Perm p/\n<=r.2.1/\r.2.1<=n+f/\r.2.2 < r.2.1/\Dn' lt r.1 r.2.1/\Eqv lt r.1 (r.2.1 - (r.2.2+1)) r.2.1
 | 0,p,n,q,hn,hq,hz,h,e=>⟨rfl,cJ _,aB _,aB _,hq,h,e⟩
 | f+1,p,n,q,hn,hq,hz,h,e=>by
   unfold kas_desc;rw [fq]
   cases c:lt (p.getD n 0) (p.getD (n - 1) 0) with
   | true =>
     rw [if_pos rfl];have c':=O.as _ _ c
     have one:∀ p':Array Nat,Eqv lt p' (n+1 - (0+1)) (n+1):=fun p' i j h1 h2 h3 h4=>by
      have e1:i = j:=by lia
      rw [e1];exact O.refl _
     by_cases hq0:q > 0
     . rw [if_pos hq0]
       have hT:Dn' lt (kas_rev p (n - (q+1)) n) (n+1):=by
        refine (h.turn O (by lia) e).more O hn ?_;rw [iS (by lia),iS (by lia),if_pos ⟨by lia,by lia⟩,if_neg (by lia)];exact O.tr _ _ _ c' (e _ _ (by lia) (by lia) (by lia) (by lia))
       obtain ⟨a1,a2,a3,a4,a5,a6,a7⟩:=oW f (kas_rev p (n - (q+1)) n) (n+1) 0 (by lia) (by lia) (by rw [iB];lia) hT (one _);exact ⟨by rw [a1,iB],a2.trans (eB _ _ _),by lia,by lia,a5,a6,a7⟩
     . rw [if_neg hq0];obtain ⟨a1,a2,a3,a4,a5,a6,a7⟩:=oW f p (n+1) 0 (by lia) (by lia) (by lia) (h.more O hn c') (one _)
       exact ⟨a1,a2,by lia,by lia,a5,a6,a7⟩
   | false =>
     rw [if_neg aq,fq]
     cases d:lt (p.getD (n - 1) 0) (p.getD n 0) with
     | true =>
       rw [if_pos rfl,ij]
       exact ⟨rfl,cJ _,aB _,Hz _ _,hq,h,e⟩
     | false =>
       rw [if_neg aq]
       have hE:Eqv lt p (n+1 - (q+1+1)) (n+1):=fun i j h1 h2 h3 h4=>by
        by_cases ei:i = n
        . subst ei;by_cases ej:j = i
          . subst ej;exact O.refl _
          . exact O.tr _ _ _ (e _ _ (by lia) (by lia) (by lia) (by lia)) c
        . by_cases ej:j = n
          . subst ej;exact O.tr _ _ _ d (e _ _ (by lia) (by lia) (by lia) (by lia))
          . exact e _ _ (by lia) (by lia) (by lia) (by lia)
       obtain ⟨a1,a2,a3,a4,a5,a6,a7⟩:=oW f p (n+1) (q+1) (by lia) (by lia) (by lia) (h.more O hn d) hE;exact ⟨a1,a2,by lia,by lia,a5,a6,a7⟩
theorem uC (p:Array Nat) (n m:Nat) (hn:1<=n) (hm:n<=m) (hz:m<=p.size) (h:Dn' lt p n) :
 let r:=ans lt (kas_tail3 n m p)
 r.2.size = p.size/\r.2.Perm p/\1<=r.1/\r.1<=m/\Up lt r.2 r.1:=by
 unfold kas_tail3;rw [dz,ij];obtain ⟨a1,a2,a3,_⟩:=xp O (kas_rev p 0 n) (m - n) n hn (h.rev O (by lia));exact ⟨iB _ _ _,eB _ _ _,by lia,by lia,a3⟩
theorem oa (p:Array Nat) (n m:Nat) (hn:1<=n) (hm:n < m) (hz:m<=p.size) (h:Dn' lt p (n+1)) :
 let r:=ans lt (kas_descPart n m p)
 r.2.size = p.size/\r.2.Perm p/\1<=r.1/\r.1<=m/\Up lt r.2 r.1:=by
 unfold kas_descPart;rw [dz]
 have one:Eqv lt p (n+1 - (0+1)) (n+1):=fun i j h1 h2 h3 h4=>by
  have e1:i = j:=by lia
  rw [e1];exact O.refl _
 obtain ⟨a1,a2,a3,a4,a5,a6,a7⟩:=oW O (m - (n+1)) p (n+1) 0 (by lia) (by lia) (by lia) h one;generalize ans lt (kas_desc (m - (n+1)) p (n+1) 0) = r at a1 a2 a3 a4 a5 a6 a7;by_cases hq:r.2.2 > 0
 . rw [if_pos hq];obtain ⟨b1,b2,b3,b4,b5⟩:=uC O (kas_rev r.1 (r.2.1 - (r.2.2+1)) r.2.1) r.2.1 m (by lia) (by lia) (by rw [iB];lia) (a6.turn O (by lia) a7);exact ⟨by rw [b1,iB,a1],(b2.trans (eB _ _ _)).trans a2,b3,b4,b5⟩
 . rw [if_neg hq];obtain ⟨b1,b2,b3,b4,b5⟩:=uC O r.1 r.2.1 m (by lia) (by lia) (by lia) a6;exact ⟨by rw [b1,a1],b2.trans a2,b3,b4,b5⟩
theorem Er (p:Array Nat) (m:Nat) (hm:1<=m) (hz:m<=p.size) :
 let r:=ans lt (kas_count m p)
 r.2.size = p.size/\r.2.Perm p/\1<=r.1/\r.1<=m/\Up lt r.2 r.1:=by
 unfold kas_count;rw [dz];obtain ⟨a1,a2,a3,a4⟩:=xp O p (m - 1) 1 (aB _) (Up.one O p);generalize ans lt (kas_asc p (m - 1) 1) = n at a1 a2 a3 a4;by_cases e:(n == m) = true
 . rw [if_pos e,ij];exact ⟨rfl,cJ _,a1,by lia,a3⟩
 . rw [if_neg e];have ne:n≠m:=fun z=>e (by rw [z];simp);have c:=a4 (by lia);by_cases h1:n > 1
   . rw [if_pos h1,fq]
     cases d:lt (p.getD 0 0) (p.getD (n - 1) 0) with
     | true =>
       rw [if_pos rfl,ij]
       exact ⟨rfl,cJ _,a1,by lia,a3⟩
     | false =>
       rw [if_neg aq]
       have hE:Eqv lt p 0 n:=fun i j _ hi _ hj=>by
        have x1:lt (p.getD 0 0) (p.getD j 0) = false:=O.tr _ _ _ (a3 j (n - 1) (by lia) (by lia)) d;exact O.tr _ _ _ x1 (a3 0 i (by lia) hi)
       have hD:Dn' lt (kas_rev p 0 n) (n+1):=by
        refine (Dn'.turn O (p:=p) (n:=n) (a:=0) (fun i j hi hj=>hE i j (by lia) (by lia) (by lia) (by omega)) (by lia) hE).more O a1 ?_;rw [iS (by lia),iS (by lia),if_pos ⟨by lia,by lia⟩,if_neg (by lia)];exact O.tr _ _ _ (O.as _ _ c) (hE _ _ (by lia) (by lia) (by lia) (by lia))
       obtain ⟨b1,b2,b3,b4,b5⟩:=oa O (kas_rev p 0 n) n m a1 (by lia) (by rw [iB];omega) hD;exact ⟨by rw [b1,iB],b2.trans (eB _ _ _),b3,b4,b5⟩
   . rw [if_neg h1];have e1:n = 1:=by lia
     subst e1
     have hD:Dn' lt p (1+1):=by
      refine Dn'.more O (n:=1) (fun i j h1 h2=>?_) (aB _) (O.as _ _ c);have e1:i = j:=by lia
      rw [e1];exact O.refl _
     exact oa O p 1 m (aB _) (by lia) hz hD
theorem pT (p:Array Nat) (k:Nat) (h:Up lt p k):∀ (f l r:Nat),l<=r->r<=k->r - l<=f->(∀ i,i < l->lt (p.getD k 0) (p.getD i 0) = false)->(∀ i,r<=i->i < k->lt (p.getD i 0) (p.getD k 0) = false) ->
 let x:=ans lt (kas_place p k f l r)
 x<=k/\(∀ i,i < x->lt (p.getD k 0) (p.getD i 0) = false)/\∀ i,x<=i->i < k->lt (p.getD i 0) (p.getD k 0) = false
 | 0,l,r,h1,h2,h3,h4,h5=>by
   have e:l = r:=by lia
   subst e
   exact ⟨h2,h4,h5⟩
 | f+1,l,r,h1,h2,h3,h4,h5=>by
   unfold kas_place;by_cases hlr:l ≥ r
   . rw [if_pos hlr,ij];have e:l = r:=by lia
     subst e;exact ⟨h2,h4,h5⟩
   . rw [if_neg hlr,fq]
     cases c:lt (p.getD k 0) (p.getD ((l+r) / 2) 0) with
     | true =>
       rw [if_pos rfl];refine pT p k h f l ((l+r) / 2) (by lia) (by lia) (by lia) h4 fun i hi hk=>?_
       exact O.tr _ _ _ (O.as _ _ c) (h _ i (by omega) hk)
     | false =>
       rw [if_neg aq];refine pT p k h f ((l+r) / 2+1) r (by lia) h2 (by lia) (fun i hi=>?_) h5;exact O.tr _ _ _ (h i ((l+r) / 2) (by lia) (by lia)) c
theorem EE:∀ (f:Nat) (p:Array Nat) (k:Nat),k+f<=p.size->Up lt p k ->
 let r:=ans lt (kas_bin f p k)
 r.size = p.size/\r.Perm p/\Up lt r (k+f)
 | 0,p,k,_,h=>⟨rfl,cJ _,h⟩
 | f+1,p,k,hz,h=>by
   unfold kas_bin;rw [dz];obtain ⟨a1,a2,a3⟩:=pT O p k h k 0 k (by lia) (by lia) (by lia) (fun i hi=>by lia) (fun i h1 h2=>by lia);generalize ans lt (kas_place p k k 0 k) = l at a1 a2 a3
   have bg:∀ t,(bubble p k (k - l)).getD t 0 = if t = l then p.getD k 0 else if l < t/\t<=k then p.getD (t - 1) 0 else p.getD t 0:=fun t=>by
    rw [getD_eq,getElem?_bubble (by lia) (k - l) (by lia) t];have e1:k - (k - l) = l:=by lia
    rw [e1];by_cases h1:t = l
    . rw [if_pos h1,if_pos h1,getD_eq]
    . rw [if_neg h1,if_neg h1];by_cases h2:l < t/\t<=k
      . rw [if_pos h2,if_pos h2,getD_eq]
      . rw [if_neg h2,if_neg h2,getD_eq]
   have hU:Up lt (bubble p k (k - l)) (k+1):=fun i j h1 h2=>by
    rw [bg i,bg j];by_cases i1:i = l
    . rw [if_pos i1];by_cases j1:j = l
      . rw [if_pos j1];exact O.refl _
      . rw [if_neg j1,if_pos ⟨by lia,by lia⟩];exact a3 _ (by lia) (by lia)
    . rw [if_neg i1];by_cases i2:l < i/\i<=k
      . rw [if_pos i2,if_neg (by lia),if_pos ⟨by lia,by lia⟩];exact h _ _ (by lia) (by lia)
      . rw [if_neg i2];by_cases j1:j = l
        . rw [if_pos j1];exact a2 i (by lia)
        . rw [if_neg j1];by_cases j2:l < j/\j<=k
          . rw [if_pos j2];exact h _ _ (by lia) (by lia)
          . rw [if_neg j2];exact h _ _ h1 (by lia)
   obtain ⟨b1,b2,b3⟩:=EE f (bubble p k (k - l)) (k+1) (by rw [bubble_size];lia) hU;exact ⟨by rw [b1,bubble_size],b2.trans (Hx _ _ _),by rw [show k+(f+1) = k+1+f by lia];exact b3⟩
theorem FE (n:Nat) (hn:1<=n) :
 let r:=ans lt (kas_sort n)
 r.size = n/\r.Perm (fG (bC n))/\Up lt r n:=by
 unfold kas_sort;rw [dz];have hs:(fG (bC n)).size = n:=by simp
 obtain ⟨a1,a2,a3,a4,a5⟩:=Er O (fG (bC n)) n hn (by lia);generalize ans lt (kas_count n (fG (bC n))) = r at a1 a2 a3 a4 a5;by_cases h:r.1 < n
 . rw [if_pos h];have e:max r.1 1 = r.1:=by lia
   rw [e];obtain ⟨b1,b2,b3⟩:=EE O (n - r.1) r.2 r.1 (by lia) a5;have e2:r.1+(n - r.1) = n:=by lia
   rw [e2] at b3;exact ⟨by lia,b2.trans a2,b3⟩
 . rw [if_neg h,ij];have e:r.1 = n:=by lia
   exact ⟨by lia,a2,by rw [<- e];exact a5⟩
end
end PP
end
section
namespace PP
open PySem
set_option genInjectivity true in
inductive D where
 | non | bl (b:Bool) | int (i:Int) | str (x:Str) | lst (ds:List D) | tup (ds:List D) | fn (k:Nat) (ds:List D)
 deriving Inhabited
mutual
noncomputable def eqD:D->D->Bool
 | .non,.non=>true
 | .bl a,.bl b=>a == b
 | .bl a,.int b=>(if a then 1 else 0) == b
 | .int a,.bl b=>a == (if b then 1 else 0)
 | .int a,.int b=>a == b
 | .str a,.str b=>a == b
 | .lst a,.lst b=>gM a b
 | .tup a,.tup b=>gM a b
 | _,_=>false
noncomputable def gM:List D->List D->Bool
 | [],[]=>true
 | x::xs,y::ys=>eqD x y && gM xs ys
 | _,_=>false
end
mutual
noncomputable def ltD:D->D->Option Bool
 | .int a,.int b=>some (decide (a < b))
 | .str a,.str b=>some (decide (a.cps.toList < b.cps.toList))
 | .tup a,.tup b=>hW a b
 | _,_=>none
noncomputable def hW:List D->List D->Option Bool
 | [],[]=>some false
 | [],_::_=>some true
 | _::_,[]=>some false
 | x::xs,y::ys=>if eqD x y = true then hW xs ys else ltD x y
end
mutual
noncomputable def dep:D->Nat
 | .lst ds | .tup ds=>cN ds+1
 | .fn _ _=>100000
 | _=>0
noncomputable def cN:List D->Nat
 | []=>0
 | x::xs=>max (dep x) (cN xs)
end
mutual
noncomputable def lf:D->Bool
 | .lst _=>false
 | .fn _ _=>false
 | .tup ds=>lfL ds
 | _=>true
noncomputable def lfL:List D->Bool
 | []=>true
 | x::xs=>lf x && lfL xs
end
noncomputable def flat:D->Bool
 | .non | .bl _ | .int _ | .str _=>true
 | _=>false
noncomputable def tv:D->Option Bool
 | .non=>some false
 | .bl b=>some b
 | .int i=>some (i != 0)
 | .str x=>if x.length<=sizeLine then some ((x.length:Int) != 0) else none
 | .lst ds | .tup ds=>some (!ds.isEmpty)
 | .fn _ _=>none
inductive Op where
 | add | sub | mul | mod | fdiv
 deriving DecidableEq
inductive Cop where
 | lt | le | gt | eq | ne | isin | notin
 deriving DecidableEq
inductive Blt where
 | len | toInt | toStr | toTup | toLst | any | sorted | isBool
 deriving DecidableEq
noncomputable def rD (i j:Int):Bool:=(decide (-(2 ^ 64) < i) && decide (i < 2 ^ 64)) || (decide (-(2 ^ 64) < j) && decide (j < 2 ^ 64)) || (decide (i.natAbs < 2 ^ 200) && decide (j.natAbs < 2 ^ 200))
noncomputable def wD (x:Str) (n:Nat):Str:=⟨(aN n x.cps.toList).flatten.toArray⟩
noncomputable def KZ:D->D->Option D
 | .int a,.int b=>some (.int (a+b))
 | .str a,.str b=>if a.length+b.length<=sizeLine then some (.str (a++b)) else none
 | .tup [],.tup b=>some (.tup b)
 | .tup (x::a),.tup b=>if (x::a).length+b.length<=sizeLine then some (.tup (x::a++b)) else none
 | .lst a,.lst b=>if a.length+b.length<=sizeLine then some (.lst (a++b)) else none
 | _,_=>none
noncomputable def NU:D->D->Option D
 | .int a,.int b=>some (.int (a+b))
 | .tup (x::a),.tup b=>if (x::a).length+b.length<=sizeLine then some (.tup (x::a++b)) else none
 | _,_=>none
noncomputable def IT:D->D->Option D
 | .int a,.int b=>some (.int (a - b))
 | _,_=>none
noncomputable def Ke:D->D->Option D
 | .int a,.int b=>if rD a b then some (.int (a * b)) else none
 | .str a,.int b=>if 0<=b/\b<=1000/\a.length<=1000 then some (.str (wD a b.toNat)) else none
 | _,_=>none
noncomputable def Kf:D->D->Option D
 | .int a,.int b=>if 0 < b then some (.int (a % b)) else none
 | _,_=>none
noncomputable def Eg:D->D->Option D
 | .int a,.int b=>if 0 < b/\b < 1000000000000000000000000000000000000000000000000000000000000 then some (.int (a / b)) else none
 | _,_=>none
noncomputable def opD:Op->D->D->Option D
 | .add=>KZ | .sub=>IT | .mul=>Ke | .mod=>Kf | .fdiv=>Eg
noncomputable def kin:D->D->Bool
 | .bl _,.bl _ | .int _,.int _ | .str _,.str _ | .lst _,.lst _ | .tup _,.tup _=>true
 | _,_=>false
noncomputable def gH (a b:D):Bool:=kin a b && decide (min (dep a) (dep b)<=150) && decide (max (dep a) (dep b) < 100000)
noncomputable def MB:D->D->Bool
 | .int _,.str _=>true
 | .str _,.int _=>true
 | _,_=>false
noncomputable def JL (p:Int->Int->Bool):D->D->Option Bool
 | .int a,.int b=>some (p a b)
 | _,_=>none
noncomputable def sT (y x:Str):Bool:=!(pB y x 0 y.length 1).isEmpty
noncomputable def inD (a:D):D->Option Bool
 | .lst ds=>if dep a<=150/\cN ds < 99999 then some (ds.any fun y=>eqD y a) else none
 | .tup ds=>if dep a<=150/\cN ds < 99999 then some (ds.any fun y=>eqD y a) else none
 | .str y=>match a with
   | .str x=>some (sT y x)
   | _=>none
 | _=>none
noncomputable def oC (a b:D):Option Bool:=if min (dep a) (dep b)<=150/\max (dep a) (dep b) < 100000 then ltD a b else none
noncomputable def iG (ds:List D) (i j:Nat):Bool:=(oC (ds.getD i .non) (ds.getD j .non)).getD false
noncomputable def eO (ds:List D):List D:=if ds.length < 2 then ds else (ans (iG ds) (PySem.W.kas_sort ds.length)).toList.map fun i=>ds.getD i .non
noncomputable def bE:D->Nat
 | .str _=>1
 | .int _=>2
 | .tup (.str _::_)=>3
 | .tup (.int _::_)=>4
 | _=>0
noncomputable def sortable (ds:List D):Bool:=decide (ds.length < 64) && (ds.all fun x=>bE x != 0 && bE x == bE (ds.getD 0 .non)) && ds.all fun x=>ds.all fun y=>(oC x y).isSome
mutual
noncomputable def hb:D->Bool
 | .str _ | .int _=>true
 | .tup ds=>hbL ds
 | _=>false
noncomputable def hbL:List D->Bool
 | []=>true
 | d::ds=>hb d && hbL ds
end
noncomputable def leD:D->D->Option Bool
 | .int a,.int b=>some (decide (a<=b))
 | .str a,.str b=>some (!decide (b.cps.toList < a.cps.toList))
 | _,_=>none
noncomputable def qo:Cop->D->D->Option Bool
 | .lt,x,y=>oC x y
 | .le,x,y=>leD x y
 | .gt,x,y=>JL (fun a b=>decide (b < a)) x y
 | .eq,a,b=>if gH a b then some (eqD a b) else if MB a b = true then some false else none
 | .ne,a,b=>if gH a b then some (!eqD a b) else none
 | .isin,a,y=>inD a y
 | .notin,a,y=>(inD a y).map (!·)
noncomputable def ixD:D->D->Option D
 | .lst ds,.int i=>L2.atI ds i
 | .tup ds,.int i=>L2.atI ds i
 | .str x,.int i=>if x.length<=sizeLine then (L2.atI x.cps.toList i).map fun c=>.str ⟨#[c]⟩ else none
 | _,_=>none
noncomputable def cutD (ds:List D) (lo hi:Option Int):List D:=(ds.drop (HT.sIx ds.length 0 lo)).take (HT.sIx ds.length ds.length hi - HT.sIx ds.length 0 lo)
noncomputable def slD:D->Option Int->Option Int->Option D
 | .lst ds,lo,hi=>some (.lst (cutD ds lo hi))
 | .tup ds,lo,hi=>if HT.sIx ds.length 0 lo = 0/\HT.sIx ds.length ds.length hi = ds.length then none else some (.tup (cutD ds lo hi))
 | .str x,lo,hi=>if x.length<=sizeLine then some (.str (Txt.slice x lo hi)) else none
 | _,_,_=>none
noncomputable def GS:List D->Option D
 | [.str x]=>if x.length<=sizeLine then some (.int x.length) else none
 | [.lst ds]=>some (.int ds.length)
 | [.tup ds]=>some (.int ds.length)
 | _=>none
noncomputable def pH:List D->Option D
 | [.int i]=>some (.int i)
 | [.bl b]=>some (.int (if b then 1 else 0))
 | [.str x]=>if x.length<=640 then (PySem.intText? x).map .int else none
 | _=>none
noncomputable def su:List D->Option D
 | [.int i]=>if i.natAbs.log2 < 1920 then some (.str (toString i)) else none
 | _=>none
noncomputable def sr:List D->Option D
 | [.lst ds]=>some (.tup ds)
 | [.tup ds]=>some (.tup ds)
 | _=>none
noncomputable def nh:List D->Option D
 | [.lst ds]=>some (.lst ds)
 | [.tup ds]=>some (.lst ds)
 | _=>none
noncomputable def lS:List D->Option (List Bool)
 | []=>some []
 | .bl i::r=>(lS r).map (i::·)
 | _=>none
noncomputable def Hr:List D->Option D
 | [.lst ds]=>(lS ds).map fun bs=>.bl (bs.any id)
 | _=>none
noncomputable def oO:List D->Option D
 | [.lst ds]=>if sortable ds = true then some (.lst (eO ds)) else none
 | _=>none
noncomputable def ia:List D->Option D
 | [.bl _]=>some (.bl true)
 | [.fn _ _]=>none
 | [_]=>some (.bl false)
 | _=>none
noncomputable def kF:Blt->List D->Option D
 | .len=>GS | .toInt=>pH | .toStr=>su | .toTup=>sr | .toLst=>nh | .any=>Hr | .sorted=>oO
 | .isBool=>ia
inductive Sl where
 | no | val (d:D) | own (ds:List D) | fnc (k:Nat) (cs:List D)
 deriving Inhabited
abbrev Loc:=List Sl
inductive Tg where
 | nm (i:Nat)
 | tp (is:List Nat)
noncomputable def fJ:List D->Option (List Str)
 | []=>some []
 | .str x::r=>(fJ r).map (x::·)
 | _=>none
inductive Mt | split | part | ends | join | index
mutual
inductive E where
 | var (i:Nat)
 | pk (i:Nat)
 | glob (g:Nat)
 | int (i:Int) | bl (b:Bool) | non | str (x:Str)
 | bin (op:Op) (a b:E)
 | cmp (op:Cop) (a b:E)
 | and (a b:E) | or (a b:E) | not (a:E) | neg (a:E)
 | ite (c a b:E)
 | tup (es:Es) | lst (es:Es)
 | ix (a b:E)
 | sl (a:E) (lo hi:Eo)
 | rvt (a:E) (s:Eo)
 | call (f:Nat) (es:Es)
 | blt (f:Blt) (es:Es)
 | bad
 | callv (i:Nat) (es:Es)
 | callF (f:Nat) (es:Es) (i:Nat)
 | isdig (i:Nat)
 | comp (k:Nat) (tg:Tg) (src:It) (ifs:Eo) (elt:E)
 | sset (k:Nat) (tg1:Tg) (src1:It) (tg2:Tg) (src2:It) (ifs:Eo) (elt:E)
inductive Es where
 | nil | cons (e:E) (es:Es)
inductive Eo where
 | no | yes (e:E)
inductive It where
 | rng (e:E) | sq (e:E)
end
noncomputable def get (δ:Loc) (i:Nat):Option D:=match δ[i]? with
 | some (.val d)=>some d
 | some (.own ds)=>some (.lst ds)
 | _=>none
noncomputable def Eb (δ:Loc) (i:Nat):Option D:=match δ[i]? with
 | _=>get δ i
noncomputable def demote (δ:Loc) (i:Nat):Loc:=match δ[i]? with
 | some (.own ds)=>δ.set i (.val (.lst ds))
 | _=>δ
noncomputable def dv (δ:Loc):Tg->D->Option Loc
 | .nm i,d=>if i < δ.length then some (δ.set i (.val d)) else none
 | .tp is,.tup ds=>if is.length = ds.length/\is.all (· < δ.length) = true then some ((is.zip ds).foldl (fun δ p=>δ.set p.1 (.val p.2)) δ) else none
 | .tp is,.lst ds=>if is.length = ds.length/\is.all (· < δ.length) = true then some ((is.zip ds).foldl (fun δ p=>δ.set p.1 (.val p.2)) δ) else none
 | _,_=>none
noncomputable def items:D->Option (List D)
 | .lst ds=>some ds
 | .tup ds=>some ds
 | .str x=>if x.length<=sizeLine then some (x.cps.toList.map fun c=>.str ⟨#[c]⟩) else none
 | _=>none
noncomputable def sH (lo:Int) (n:Nat):List D:=(bC n).map fun (i:Nat)=>D.int (lo+i)
noncomputable def mK (f:D->Loc->Option (Option D × Loc)):List D->Loc->Option (List D × Loc)
 | [],δ=>some ([],δ)
 | x::xs,δ=>do
   let (o,δ1) <- f x δ
   let (ys,δ2) <- mK f xs δ1
   return (match o with | some y=>y::ys | none=>ys,δ2)
noncomputable def gf (f:D->Loc->Option (List D × Loc)):List D->Loc->Option (List D × Loc)
 | [],δ=>some ([],δ)
 | x::xs,δ=>do
   let (o,δ1) <- f x δ
   let (ys,δ2) <- gf f xs δ1
   return (o++ys,δ2)
noncomputable def jW (ts:List Str) (x:Str):List Str:=if x∈ts then ts else ts++[x]
noncomputable def gI (xs:List Str):List Str:=xs.foldl jW []
noncomputable def lfO:Option D->Option D
 | some r=>if lf r = true then some r else none
 | none=>none
noncomputable def lA (δ:Loc):List Nat->Option (List D)
 | []=>some []
 | i::r=>match get δ i with
   | some d=>if flat d = true then (lA δ r).map (d::·) else none
   | none=>none
structure Cl where
 call:Nat->List D->Option D
 gl:List D
 hf:Nat->Bool
section
variable (cx:Cl)
mutual
noncomputable def evE:E->Loc->Option (D × Loc)
 | .var i,δ=>do return (<- Eb δ i,demote δ i)
 | .pk i,δ=>do return (<- get δ i,δ)
 | .glob g,δ=>do return (<- cx.gl[g]?,δ)
 | .int i,δ=>some (.int i,δ)
 | .bl b,δ=>some (.bl b,δ)
 | .non,δ=>some (.non,δ)
 | .str x,δ=>some (.str x,δ)
 | .bin op a b,δ=>do
   let (x,δ1) <- evE a δ
   let (y,δ2) <- evE b δ1
   return (<- opD op x y,δ2)
 | .cmp op a b,δ=>do
   let (x,δ1) <- evE a δ
   let (y,δ2) <- evE b δ1
   return (.bl (<- qo op x y),δ2)
 | .and a b,δ=>do
   match <- evE a δ with
   | (.bl true,δ1)=>evE b δ1
   | (.bl false,δ1)=>some (.bl false,δ1)
   | _=>none
 | .or a b,δ=>do
   match <- evE a δ with
   | (.bl true,δ1)=>some (.bl true,δ1)
   | (.bl false,δ1)=>evE b δ1
   | _=>none
 | .not a,δ=>do
   match <- evE a δ with
   | (.bl b,δ1)=>some (.bl (!b),δ1)
   | _=>none
 | .neg a,δ=>do
   match <- evE a δ with
   | (.int i,δ1)=>some (.int (-i),δ1)
   | _=>none
 | .ite c a b,δ=>do
   let (k,δ1) <- evT c δ
   if k then evE a δ1 else evE b δ1
 | .tup es,δ=>do
   let (ds,δ1) <- fW es δ
   if ds.length<=sizeLine then return (.tup ds,δ1) else none
 | .lst es,δ=>do
   let (ds,δ1) <- fW es δ
   if ds.length<=sizeLine then return (.lst ds,δ1) else none
 | .ix a b,δ=>do
   let (x,δ1) <- evE a δ
   let (y,δ2) <- evE b δ1
   return (<- ixD x y,δ2)
 | .rvt a s,δ=>do
   let (x,δ1) <- evE a δ
   let (o,δ2) <- evO s δ1
   match x with
   | .tup ds=>if o = some (-1) then some (.tup ds.reverse,δ2) else none
   | _=>none
 | .sl a lo hi,δ=>do
   let (x,δ1) <- evE a δ
   let (l,δ2) <- evO lo δ1
   let (h,δ3) <- evO hi δ2
   return (<- slD x l h,δ3)
 | .call f es,δ=>do
   let (ds,δ1) <- fW es δ
   return (<- cx.call f ds,δ1)
 | .blt f es,δ=>do
   let (ds,δ1) <- fW es δ
   return (<- kF f ds,δ1)
 | .callv i es,δ=>do
   let (ds,δ1) <- fW es δ
   match δ[i]? with
   | some (.fnc k cs)=>if lfL ds = true then (lfO (cx.call k (ds++cs))).map fun r=>(r,δ1) else none
   | _=>none
 | .callF f es i,δ=>do
   let (ds,δ1) <- fW es δ
   match δ1[i]? with
   | some (.fnc k cs)=>if cx.hf f = true then (cx.call f (ds++[.fn k cs])).map fun r=>(r,δ1) else none
   | _=>none
 | .bad,_=>none
 | .isdig i,δ=>do
   match <- get δ i with
   | .str x=>some (.bl (decide (x.length > 0) && x.cps.all cX),δ)
   | _=>none
 | .comp k tg src ifs elt,δ=>do
   let (ds,δ1) <- evI src δ
   let (ys,δ2) <- mK (fun x δ0=>do
    let δ2 <- dv (δ0++aN k .no) tg x
    let (b,δ3) <- evG ifs δ2
    if b then do
     let (y,δ4) <- evE elt δ3
     return (some y,δ4.take δ0.length)
    else return (none,δ3.take δ0.length)) ds δ1
   if ys.length<=sizeLine then return (.lst ys,δ2) else none
 | .sset k tg1 src1 tg2 src2 ifs elt,δ=>do
   let (ds,δ1) <- evI src1 δ
   let (ys,δ2) <- gf (fun x δ0=>do
    let δa <- dv (δ0++aN k .no) tg1 x
    let (es,δb) <- evI src2 δa
    let (zs,δc) <- gf (fun y δi=>do
     let δd <- dv δi tg2 y
     let (b,δe) <- evG ifs δd
     if b then do
      let (z,δf) <- evE elt δe
      return ([z],δf)
     else return ([],δe)) es δb
    return (zs,δc.take δ0.length)) ds δ1
   match fJ ys with
   | some xs=>if xs.length < 4000/\(gI xs).length < 64 then some (.lst (eO ((gI xs).map .str)),δ2) else none
   | none=>none
noncomputable def evT:E->Loc->Option (Bool × Loc)
 | .and a b,δ=>do
   let (k,δ1) <- evT a δ
   if k then evT b δ1 else some (false,δ1)
 | .or a b,δ=>do
   let (k,δ1) <- evT a δ
   if k then some (true,δ1) else evT b δ1
 | .not a,δ=>do
   let (k,δ1) <- evT a δ
   return (!k,δ1)
 | .cmp op a b,δ=>do
   let (x,δ1) <- evE a δ
   let (y,δ2) <- evE b δ1
   return (<- qo op x y,δ2)
 | .ix a b,δ=>do
   let (x,δ1) <- evE a δ
   let (y,δ2) <- evE b δ1
   let d <- ixD x y
   return (<- tv d,δ2)
 | .var i,δ=>do
   let d <- get δ i
   return (<- tv d,δ)
 | .pk i,δ=>do
   let d <- get δ i
   return (<- tv d,δ)
 | .call f es,δ=>do
   let (ds,δ1) <- fW es δ
   let d <- cx.call f ds
   return (<- tv d,δ1)
 | .blt f es,δ=>do
   let (ds,δ1) <- fW es δ
   let d <- kF f ds
   return (<- tv d,δ1)
 | _,_=>none
noncomputable def fW:Es->Loc->Option (List D × Loc)
 | .nil,δ=>some ([],δ)
 | .cons e es,δ=>do
   let (d,δ1) <- evE e δ
   let (ds,δ2) <- fW es δ1
   return (d::ds,δ2)
noncomputable def evO:Eo->Loc->Option (Option Int × Loc)
 | .no,δ=>some (none,δ)
 | .yes e,δ=>do
   match <- evE e δ with
   | (.int i,δ1)=>some (some i,δ1)
   | _=>none
noncomputable def evG:Eo->Loc->Option (Bool × Loc)
 | .no,δ=>some (true,δ)
 | .yes e,δ=>evT e δ
noncomputable def evI:It->Loc->Option (List D × Loc)
 | .rng e,δ=>do
   match <- evE e δ with
   | (.int j,δ1)=>if -(2 ^ 62)<=j/\j < 2 ^ 62 then some (sH 0 j.toNat,δ1) else none
   | _=>none
 | .sq e,δ=>do
   let (d,δ1) <- evE e δ
   return (<- items d,δ1)
end
end
inductive Out where
 | nx (δ:Loc) | rt (d:D) (δ:Loc) | ro (d:D) (δ:Loc)
mutual
inductive S where
 | asg (tg:Tg) (e:E)
 | new (i:Nat) (e:E)
 | cmp (own:Bool) (i:Nat) (e:E)
 | ret (e:E)
 | retL (f:Nat) (es:Es) (k:Nat) (caps:List Nat)
 | ifs (c:E) (a b:Ss)
 | for_ (tg:Tg) (src:It) (body:Ss)
 | forZ (tg:Tg) (es:Es) (body:Ss)
 | append (i:Nat) (e:E)
 | extend (i:Nat) (e:E)
 | setix (i:Nat) (j e:E)
 | bad
inductive Ss where
 | nil | cons (s:S) (ss:Ss)
end
noncomputable def forL (f:D->Loc->Option Out):List D->Loc->Option Out
 | [],δ=>some (.nx δ)
 | x::xs,δ=>match f x δ with
   | some (.nx δ1)=>forL f xs δ1
   | some (.rt d δ1)=>some (.rt d δ1)
   | some (.ro ds δ1)=>some (.ro ds δ1)
   | none=>none
noncomputable def CC:D->Option (List D)
 | .lst ds=>some ds
 | .tup ds=>some ds
 | _=>none
noncomputable def jf (xs ys:List D):List D:=(xs.zip ys).map fun p=>.tup [p.1,p.2]
noncomputable def sN:Nat:=1000000
section
variable (cx:Cl)
mutual
noncomputable def evS:S->Loc->Option Out
 | .asg tg e,δ=>do
   let (d,δ1) <- evE cx e δ
   return .nx (<- dv δ1 tg d)
 | .new i e,δ=>do
   match <- evE cx e δ with
   | (.lst ds,δ1)=>if i < δ1.length then some (.nx (δ1.set i (.own ds))) else none
   | _=>none
 | .cmp own i e,δ=>do
   match <- evE cx e δ with
   | (.lst ds,δ1)=>if i < δ1.length then some (.nx (δ1.set i (if own then .own ds else .val (.lst ds)))) else none
   | _=>none
 | .ret e,δ=>do
   let (d,δ1) <- evE cx e δ
   return .rt d δ1
 | .retL f es k caps,δ=>do
   let (ds,δ1) <- fW cx es δ
   let cs <- lA δ1 caps
   if cx.hf f = true then (lfO (cx.call f (ds++[.fn k cs]))).map fun r=>.rt r δ1 else none
 | .ifs c a b,δ=>do
   let (k,δ1) <- evT cx c δ
   if k then dH a δ1 else dH b δ1
 | .for_ tg src body,δ=>do
   let (ds,δ1) <- evI cx src δ
   forL (fun x δ0=>match dv δ0 tg x with
    | some δ2=>dH body δ2
    | none=>none) ds δ1
 | .forZ tg es body,δ=>do
   let (ds,δ1) <- fW cx es δ
   match ds with
   | [x,y]=>(match CC x,CC y with
     | some xs,some ys=>(forL (fun p δ0=>(match dv δ0 tg p with
       | some δ2=>dH body δ2
       | none=>none)) (jf xs ys) δ1)
     | _,_=>none)
   | _=>none
 | .append i e,δ=>match δ[i]? with
   | some (.own _)=>do
     let (d,δ1) <- evE cx e δ
     match δ1[i]? with
     | some (.own ds)=>if ds.length < sizeLine then some (.nx (δ1.set i (.own (ds++[d])))) else none
     | _=>none
   | _=>none
 | .extend i e,δ=>match δ[i]? with
   | some (.own _)=>do
     match <- evE cx e δ with
     | (.lst ys,δ1)=>match δ1[i]? with
       | some (.own ds)=>if ds.length+ys.length<=sizeLine then some (.nx (δ1.set i (.own (ds++ys)))) else none
       | _=>none
     | _=>none
   | _=>none
 | .setix i j e,δ=>do
   let (d,δ1) <- evE cx e δ
   match δ1[i]? with
   | some (.own _)=>do
     match <- evE cx j δ1 with
     | (.int k,δ2)=>match δ2[i]? with
       | some (.own ds)=>match L2.ixN ds.length k with
         | some m=>some (.nx (δ2.set i (.own (ds.set m d))))
         | none=>none
       | _=>none
     | _=>none
   | _=>none
 | .bad,_=>none
noncomputable def dH:Ss->Loc->Option Out
 | .nil,δ=>some (.nx δ)
 | .cons s ss,δ=>match evS s δ with
   | some (.nx δ1)=>dH ss δ1
   | o=>o
end
end
structure Fd where
 name:Str
 ps:List Str
 loc:List Str
 body:Ss
 hf:Bool:=false
noncomputable def outD:Option Out->Option D
 | some (.rt d _)=>some d
 | some (.ro d _)=>some d
 | some (.nx _)=>some .non
 | _=>none
noncomputable def JJ:Option Out->Option D
 | some (.ro d _)=>some d
 | _=>none
noncomputable def init (n:Nat) (ds:List D):Loc:=ds.map .val++aN (n - ds.length) .no
noncomputable def hfs (G:List Fd) (f:Nat):Bool:=match G[f]? with
 | some fd=>fd.hf
 | none=>false
noncomputable def nY (n:Nat) (ds:List D) (k:Nat) (cs:List D):Loc:=ds.map .val++Sl.fnc k cs::aN (n - (ds.length+1)) .no
noncomputable def entry (hf:Bool) (n:Nat) (ds:List D):Option Loc:=match hf with
 | false=>some (init n ds)
 | true=>match ds.getLast? with
   | some (.fn k cs)=>some (nY n ds.dropLast k cs)
   | _=>none
noncomputable def run (G:List Fd) (gl:List D):Nat->Nat->List D->Option D
 | 0,_,_=>none
 | n+1,f,ds=>match G[f]? with
   | some fd=>if ds.length = fd.ps.length then (match entry fd.hf (fd.ps++fd.loc).length ds with
     | some δ=>outD (dH ⟨run G gl n,gl,hfs G⟩ fd.body δ)
     | none=>none) else none
   | none=>match G[f - sN]? with
     | some fd=>if sN<=f/\ds.length = fd.ps.length then (match entry fd.hf (fd.ps++fd.loc).length ds with
       | some δ=>JJ (dH ⟨run G gl n,gl,hfs G⟩ fd.body δ)
       | none=>none) else none
     | none=>none
noncomputable def bL:E->Bool
 | .pk _=>true
 | _=>false
mutual
noncomputable def np:E->Bool
 | .bin _ a b | .cmp _ a b | .and a b | .or a b | .ix a b=>np a && np b
 | .not a=>np a
 | .neg a=>np a
 | .ite c a b=>np c && np a && np b
 | .tup es | .lst es | .call _ es | .blt _ es | .callv _ es | .callF _ es _=>npS es
 | .sl a lo hi=>np a && npO lo && npO hi
 | .rvt a s=>np a && npO s
 | .comp _ _ src ifs elt=>npI src && npO ifs && np elt
 | .sset _ _ src1 _ src2 ifs elt=>npI src1 && npI src2 && npO ifs && np elt
 | _=>true
noncomputable def npS:Es->Bool
 | .nil=>true
 | .cons e es=>np e && npS es
noncomputable def npO:Eo->Bool
 | .no=>true
 | .yes e=>np e
noncomputable def npI:It->Bool
 | .rng e=>np e
 | .sq e=>np e
end
end PP
example:PP.evE ⟨fun _ _=>none,[],fun _=>false⟩ (.bin .add (.int 1) (.int 2)) [] = some (.int 3,[]):=rfl
end
section
namespace PP
open PySem L2
noncomputable def KLs (K:PySem.W.Frag) (a:av) (xs:List V):Prop:=∃ (its:Array af) (n:Nat),K.lookup a = some ⟨.type "list",none,.seq its n,#[]⟩/\its.size<=sizeLine/\Vals xs its.toList
noncomputable def Ls (K:PySem.W.Frag) (H:Hp) (F:av->Prop) (a:av) (xs:List V):Prop:=(Rd H a (.lst xs)/\¬ F a)\/KLs K a xs
noncomputable def LsB (K:PySem.W.Frag) (H:Hp) (a:av) (xs:List V):Prop:=Rd H a (.lst xs)\/KLs K a xs
theorem Ls.b {K:PySem.W.Frag} {H:Hp} {F:av->Prop} {a:av} {xs:List V} (h:Ls K H F a xs):LsB K H a xs:=h.imp (·.1) id
theorem LsB.sq (h:LsB K H a xs):SqL K H a xs:=by
 rcases h with h | ⟨its,n,h1,h2,h3⟩
 . exact .inl h
 . exact .inr ⟨_,its,n,h1,rfl,rfl,rfl,h2,h3⟩
theorem Ls.sq (h:Ls K H F a xs):SqL K H a xs:=h.b.sq
theorem LsB.obj (I:Inv X pins σ H s) (h:LsB X.K H a xs) :
 ∃ (its:List af) (n:Nat),Vals xs its/\s.heap.get? a = some { cls:=.type "list",data:=.seq its.toArray n }/\xs.length<=sizeLine:=by
 rcases h with h | ⟨its,n,h1,h2,h3⟩
 . obtain ⟨z,its,n,r,e⟩:=h.ok I.hok;exact ⟨its,n,r,e,z⟩
 . refine ⟨its.toList,n,h3,?_,?_⟩
   . have:=I.kIn a _ h1;simpa using this
   . have:=h3.length;rw [this];simpa using h2
mutual
noncomputable def Rel (K:PySem.W.Frag) (H:Hp) (F:av->Prop):D->V->Prop
 | .non,v=>v = .non
 | .bl b,v=>v = .bl b
 | .int i,v=>v = .int i
 | .str x,v=>v = .str x
 | .lst ds,v=>∃ a xs,v = .ref a/\Ls K H F a xs/\aG K H F ds xs
 | .tup ds,v=>∃ a xs,v = .ref a/\SqT K H a xs/\aG K H F ds xs
 | .fn _ _,_=>False
noncomputable def aG (K:PySem.W.Frag) (H:Hp) (F:av->Prop):List D->List V->Prop
 | [],xs=>xs = []
 | d::ds,xs=>∃ y ys,xs = y::ys/\Rel K H F d y/\aG K H F ds ys
end
noncomputable def NT:HO->Prop
 | .tbl _=>False
 | _=>True
structure Sim (H H':Hp):Prop where
 nt:∀ b o,NT o->H b = some o->H' b = some o
 tb:∀ b ps,H b = some (.tbl ps)->∃ qs,H' b = some (.tbl qs)
theorem Sim.of (h:iO H H'):Sim H H':=⟨fun b o _ e=>h b o e,fun b ps e=>⟨ps,h b _ e⟩⟩
theorem Sim.refl (H:Hp):Sim H H:=⟨fun b o _ e=>e,fun b ps e=>⟨ps,e⟩⟩
theorem Sim.trans (a:Sim H H1) (b:Sim H1 H2):Sim H H2:=⟨fun x o n e=>b.nt x o n (a.nt x o n e),fun x ps e=>by
 obtain ⟨qs,e⟩:=a.tb x ps e;exact b.tb x qs e⟩
noncomputable def Fz (H:Hp) (a:av) (o:Obj):Prop:=H a = some (.frz o (.ext fun h=>h.get? a = some o))
structure Lam where
 qual:Str
 params:oy
 body:aE
 scope:dS
 ps:List Str
 caps:List Str
class Tbs where
 ts:List (av × Str)
 lams:List (Nat × Lam)
 gds:List (Str × List (Str × Int))
variable [Tbs]
noncomputable def Mo:HO->Prop
 | .lst _=>True
 | .ext _=>True
 | .dK _=>True
 | _=>False
noncomputable def flV:D->V
 | .bl b=>.bl b
 | .int i=>.int i
 | .str x=>.str x
 | _=>.non
noncomputable def kH (H:Hp):List av->List D->Prop
 | [],ds=>ds = []
 | c::r,ds=>∃ d ds' o u,ds = d::ds'/\flat d = true/\Fz H c o/\o.data = .cell (some u)/\RelV (flV d) u/\kH H r ds'
noncomputable def FnV (H:Hp) (k:Nat) (cs:List D) (a:av):Prop:=∃ (L:Lam) (pm ctv:af) (c':av) (oc:Obj) (vs:Array af) (tk:Tok) (cells:List av),
 Tbs.lams.lookup k = some L/\Fz H a (PySem.W.kla_obj "<lambda>" L.qual L.params L.body L.scope (L.caps.zip cells) pm c' ctv)/\Fz H c' oc/\oc.data = .fields vs/\vs[1]? = some (.str L.qual tk)/\cells.Nodup/\cells.length = L.caps.length/\kH H cells cs
theorem kH.keep {H H':Hp} (k:∀ a o,Fz H a o->Fz H' a o):∀ {cells:List av} {cs:List D},kH H cells cs->kH H' cells cs
 | [],_,h=>h
 | c::r,cs,h=>by
   obtain ⟨d,ds',o,u,e,h1,h2,h3,h4,h5⟩:=h;exact ⟨d,ds',o,u,e,h1,k _ _ h2,h3,h4,kH.keep k h5⟩
theorem FnV.keep {H H':Hp} (k:∀ a o,Fz H a o->Fz H' a o) {n:Nat} {cs:List D} {a:av} (h:FnV H n cs a):FnV H' n cs a:=by
 obtain ⟨L,pm,ctv,c',oc,vs,tk,cells,h1,h2,h3,h4,h5,h6,h7,h8⟩:=h;exact ⟨L,pm,ctv,c',oc,vs,tk,cells,h1,k _ _ h2,k _ _ h3,h4,h5,h6,h7,h8.keep k⟩
noncomputable def gU (H:Hp):Prop:=∀ t∈Tbs.ts,∃ ps,H t.1 = some (.tbl ps)/\TriplesOk ps.toList/\∀ pos cv,codeAmong pos ps.toList = some cv->∃ c o vs tk,cv = .ref c/\Fz H c o/\o.data = .fields vs/\vs[1]? = some (.str t.2 tk)
theorem gU.keep {H H':Hp} (h:gU H) (k:∀ b o,¬ Mo o->H b = some o->H' b = some o):gU H':=fun t ht=>by
 obtain ⟨ps,h1,h2,h3⟩:=h t ht;refine ⟨ps,k _ _ (fun z=>z) h1,h2,fun pos cv e=>?_⟩;obtain ⟨c,o,vs,tk,e1,e2,e3⟩:=h3 pos cv e;exact ⟨c,o,vs,tk,e1,k _ _ (fun z=>z) e2,e3⟩
noncomputable def FD (F:av->Prop) (H:Hp):Prop:=∀ b,F b->∃ o,H b = some o/\(Mo o\/(∃ ps,o = .tbl ps)/\∃ t∈Tbs.ts,t.1 = b)
theorem FD.not (fd:FD F H) (e:H a = some o) (n:¬ Mo o) (t:NT o):¬ F a:=fun z=>by
 obtain ⟨u,e2,h⟩:=fd a z;rw [e] at e2;cases e2;rcases h with h | ⟨⟨ps,rfl⟩,_⟩
 . exact n h
 . exact t
theorem FD.none (fd:FD F H) (e:H a = Option.none):¬ F a:=fun z=>by
 obtain ⟨u,e2,_⟩:=fd a z;rw [e] at e2;cases e2
noncomputable def TF (F:av->Prop):Prop:=∀ t∈Tbs.ts,F t.1
structure Gh where
 h:Hp
 R:av->Prop
noncomputable def Gh.free (G:Gh) (a:av):Prop:=G.h a = none/\¬ G.R a
noncomputable def g0:Gh:=⟨fun _=>none,fun _=>False⟩
structure Step (G:Gh) (F:av->Prop) (H:Hp) (F':av->Prop) (H':Hp):Prop where
 keep:∀ b o,NT o->H b = some o->¬ F b->H' b = some o
 grow:∀ b,F' b->F b\/H b = none
 res:∀ b o,G.R b->F b->H b = some o->F' b/\H' b = some o
 tb:∀ b ps,H b = some (.tbl ps)->∃ qs,H' b = some (.tbl qs)
theorem Step.refl:Step G F H F H:=⟨fun _ _ _ h _=>h,fun _ h=>.inl h,fun _ _ _ h e=>⟨h,e⟩,fun _ ps e=>⟨ps,e⟩⟩
theorem Step.trans (a:Step G F H F1 H1) (b:Step G F1 H1 F2 H2):Step G F H F2 H2 where
 keep:=fun x o t h n=>b.keep x o t (a.keep x o t h n) fun z=>by
  rcases a.grow x z with q | q
  . exact n q
  . rw [h] at q;cases q
 grow:=fun x h=>by
  rcases b.grow x h with q | q
  . exact a.grow x q
  . by_cases f:F x
    . exact .inl f
    . right
      cases e:H x with
      | none=>rfl
      | some o =>
        by_cases t:NT o
        . rw [a.keep x o t e f] at q;cases q
        . cases o<;>first | (exact absurd trivial t) | skip
          obtain ⟨qs,z⟩:=a.tb x _ e;rw [z] at q;cases q
 res:=fun x o r h e=>by
  obtain ⟨h1,e1⟩:=a.res x o r h e;exact b.res x o r h1 e1
 tb:=fun x ps e=>by
  obtain ⟨qs,e⟩:=a.tb x ps e;exact b.tb x qs e
theorem Step.of_same (h:iO H H'):Step G F H F H':=⟨fun b o _ e _=>h b o e,fun _ h=>.inl h,fun b o _ f e=>⟨f,h b o e⟩,fun b ps e=>⟨ps,h b _ e⟩⟩
section
variable {K:PySem.W.Frag} {G:Gh} {H H':Hp} {F F':av->Prop}
theorem yc (t:NT u) (k:∀ b o,NT o->H b = some o->¬ F b->H' b = some o) (n:¬ F a) (h:Rd H a u):Rd H' a u:=by
 rcases h with h | ⟨o,h⟩
 . exact .inl (k a _ t h n)
 . exact .inr ⟨o,k a _ trivial h n⟩
theorem uH (fd:FD F H) (k:∀ b o,NT o->H b = some o->¬ F b->H' b = some o) (h:SqT K H a xs):SqT K H' a xs:=by
 rcases h with h | h
 . refine .inl (yc trivial k (fun z=>?_) h);rcases h with h | ⟨o,h⟩
   . exact fd.not h (fun z=>z) trivial z
   . exact fd.not h (fun z=>z) trivial z
 . exact .inr h
theorem Ls.step {a:av} {xs:List V} (s:Step G F H F' H') (h:Ls K H F a xs):Ls K H' F' a xs:=by
 rcases h with ⟨h1,h2⟩ | h
 . refine .inl ⟨yc trivial s.keep h2 h1,fun z=>?_⟩;rcases s.grow a z with q | q
   . exact h2 q
   . rcases h1 with h | ⟨o,h⟩
     . rw [h] at q;cases q
     . rw [h] at q;cases q
 . exact .inr h
theorem oV (fd:FD F H) (k:∀ b o,NT o->H b = some o->¬ F b->H' b = some o):∀ a o,Fz H a o->Fz H' a o:=fun a o h=>by
 exact k a _ trivial h (fd.not h (fun z=>z) trivial)
mutual
theorem Rel.step (fd:FD F H) (s:Step G F H F' H'):∀ (d:D) (v:V),Rel K H F d v->Rel K H' F' d v
 | .non,v,h=>by unfold Rel at h ⊢;exact h
 | .bl b,v,h=>by unfold Rel at h ⊢;exact h
 | .int i,v,h=>by unfold Rel at h ⊢;exact h
 | .str x,v,h=>by unfold Rel at h ⊢;exact h
 | .lst ds,v,h=>by
   unfold Rel at h ⊢;obtain ⟨a,xs,e,h1,h3⟩:=h
   exact ⟨a,xs,e,h1.step s,aG.step fd s ds xs h3⟩
 | .tup ds,v,h=>by
   unfold Rel at h ⊢;obtain ⟨a,xs,e,h1,h3⟩:=h
   exact ⟨a,xs,e,uH fd s.keep h1,aG.step fd s ds xs h3⟩
 | .fn _ _,v,h=>by unfold Rel at h;exact h.elim
theorem aG.step (fd:FD F H) (s:Step G F H F' H'):∀ (ds:List D) (xs:List V),aG K H F ds xs->aG K H' F' ds xs
 | [],xs,h=>by unfold aG at h ⊢;exact h
 | d::ds,xs,h=>by
   unfold aG at h ⊢;obtain ⟨y,ys,e,h1,h2⟩:=h;exact ⟨y,ys,e,Rel.step fd s d y h1,aG.step fd s ds ys h2⟩
end
theorem Rel.less (fd:FD F H) (hs:∀ b,F' b->F b) {d:D} {v:V} (h:Rel K H F d v):Rel K H F' d v :=
 Rel.step (G:=g0) fd ⟨fun _ _ _ h _=>h,fun b z=>.inl (hs b z),fun _ _ r _ _=>r.elim,fun _ ps e=>⟨ps,e⟩⟩ d v h
theorem aG.less (fd:FD F H) (hs:∀ b,F' b->F b) {ds:List D} {xs:List V} (h:aG K H F ds xs):aG K H F' ds xs :=
 aG.step (G:=g0) fd ⟨fun _ _ _ h _=>h,fun b z=>.inl (hs b z),fun _ _ r _ _=>r.elim,fun _ ps e=>⟨ps,e⟩⟩ ds xs h
mutual
theorem Rel.free (fd:FD F' H):∀ (d:D) (v:V),lf d = true->Rel K H F d v->Rel K H F' d v
 | .non,v,_,h=>by unfold Rel at h ⊢;exact h
 | .bl b,v,_,h=>by unfold Rel at h ⊢;exact h
 | .int i,v,_,h=>by unfold Rel at h ⊢;exact h
 | .str x,v,_,h=>by unfold Rel at h ⊢;exact h
 | .lst ds,v,l,h=>by unfold lf at l;cases l
 | .tup ds,v,l,h=>by
   unfold lf at l;unfold Rel at h ⊢;obtain ⟨a,xs,e,h1,h3⟩:=h
   exact ⟨a,xs,e,h1,aG.free fd ds xs l h3⟩
 | .fn _ _,v,l,h=>by unfold lf at l;cases l
theorem aG.free (fd:FD F' H):∀ (ds:List D) (xs:List V),lfL ds = true->aG K H F ds xs->aG K H F' ds xs
 | [],xs,_,h=>by unfold aG at h ⊢;exact h
 | d::ds,xs,l,h=>by
   unfold lfL at l;rw [aa] at l;unfold aG at h ⊢;obtain ⟨y,ys,e,h1,h2⟩:=h;exact ⟨y,ys,e,Rel.free fd d y l.1 h1,aG.free fd ds ys l.2 h2⟩
end
theorem aG.length:∀ {ds:List D} {xs:List V},aG K H F ds xs->xs.length = ds.length
 | [],xs,h=>by unfold aG at h;subst h;rfl
 | d::ds,xs,h=>by
   unfold aG at h;obtain ⟨y,ys,e,_,h2⟩:=h;subst e;rw [ak,ak,aG.length h2]
theorem aG.get:∀ {ds:List D} {xs:List V} {i:Nat} {d:D},aG K H F ds xs->ds[i]? = some d->∃ v,xs[i]? = some v/\Rel K H F d v
 | [],_,_,_,_,e=>by simp at e
 | d::ds,xs,i,d',h,e=>by
   unfold aG at h;obtain ⟨y,ys,q,h1,h2⟩:=h;subst q
   cases i with
   | zero=>simp at e;subst e;exact ⟨y,rfl,h1⟩
   | succ i =>
     obtain ⟨v,h3,h4⟩:=aG.get (i:=i) h2 (by simpa using e);exact ⟨v,by simpa using h3,h4⟩
theorem aG.append:∀ {ds es:List D} {xs ys:List V},aG K H F ds xs->aG K H F es ys->aG K H F (ds++es) (xs++ys)
 | [],es,xs,ys,h,h'=>by unfold aG at h;subst h;exact h'
 | d::ds,es,xs,ys,h,h'=>by
   unfold aG at h;obtain ⟨y,zs,q,h1,h2⟩:=h;subst q;show aG K H F (d::(ds++es)) (y::(zs++ys));unfold aG;exact ⟨y,zs++ys,rfl,h1,aG.append h2 h'⟩
theorem aG.one (h:Rel K H F d v):aG K H F [d] [v]:=by
 unfold aG;exact ⟨v,[],rfl,h,by unfold aG;rfl⟩
theorem aG.nil:aG K H F [] []:=by unfold aG;rfl
theorem aG.cons {d:D} {v:V} {ds:List D} {xs:List V} (h:Rel K H F d v) (t:aG K H F ds xs):aG K H F (d::ds) (v::xs):=by
 unfold aG;exact ⟨v,xs,rfl,h,t⟩
theorem aG.take:∀ {ds:List D} {xs:List V} (n:Nat),aG K H F ds xs->aG K H F (ds.take n) (xs.take n)
 | [],xs,n,h=>by unfold aG at h;subst h;simp;exact aG.nil
 | d::ds,xs,0,h=>by simp;exact aG.nil
 | d::ds,xs,n+1,h=>by
   unfold aG at h;obtain ⟨y,ys,q,h1,h2⟩:=h;subst q;rw [AO,AO];exact aG.cons h1 (aG.take n h2)
theorem aG.drop:∀ {ds:List D} {xs:List V} (n:Nat),aG K H F ds xs->aG K H F (ds.drop n) (xs.drop n)
 | [],xs,n,h=>by unfold aG at h;subst h;simp;exact aG.nil
 | d::ds,xs,0,h=>h
 | d::ds,xs,n+1,h=>by
   unfold aG at h;obtain ⟨y,ys,q,h1,h2⟩:=h;subst q;rw [AS,AS];exact aG.drop n h2
theorem aG.set {d:D} {v:V} (r:Rel K H F d v):∀ {ds:List D} {xs:List V} (n:Nat),aG K H F ds xs->aG K H F (ds.set n d) (xs.set n v)
 | [],xs,n,h=>by unfold aG at h;subst h;simp;exact aG.nil
 | e::ds,xs,0,h=>by
   unfold aG at h;obtain ⟨y,ys,q,h1,h2⟩:=h;subst q
   exact aG.cons r h2
 | e::ds,xs,n+1,h=>by
   unfold aG at h;obtain ⟨y,ys,q,h1,h2⟩:=h;subst q;exact aG.cons h1 (aG.set r n h2)
theorem aG.cut (lo hi:Option Int) (h:aG K H F ds xs):aG K H F (cutD ds lo hi) (qH xs lo hi):=by
 unfold cutD qH;rw [h.length];exact (h.drop _).take _
end
noncomputable def dD (K:PySem.W.Frag) (H:Hp) (F:av->Prop) (d:D) (v:V):Prop:=Rel K H F d v\/∃ a xs ds,d = .lst ds/\v = .ref a/\H a = some (.lst xs)/\aG K H F ds xs
noncomputable def RelM (m:Bool) (K:PySem.W.Frag) (H:Hp) (F:av->Prop) (d:D) (v:V):Prop:=if m = true then dD K H F d v else Rel K H F d v
theorem RelM.b {m:Bool} {K:PySem.W.Frag} {H:Hp} {F:av->Prop} {d:D} {v:V} (h:RelM m K H F d v):dD K H F d v:=by
 unfold RelM at h;split at h
 . exact h
 . exact .inl h
theorem dD.same {K:PySem.W.Frag} {G:Gh} {H H':Hp} {F F':av->Prop} {d:D} {v:V} (fd:FD F H) (s:Step G F H F' H') (k:Sim H H') (h:dD K H F d v):dD K H' F' d v:=by
 rcases h with h | ⟨a,xs,ds,e1,e2,h1,h2⟩
 . exact .inl (Rel.step fd s d v h)
 . exact .inr ⟨a,xs,ds,e1,e2,k.nt _ _ trivial h1,aG.step fd s ds xs h2⟩
theorem RelM.step {m:Bool} {K:PySem.W.Frag} {G:Gh} {H H':Hp} {F F':av->Prop} {d:D} {v:V} (fd:FD F H) (s:Step G F H F' H') (k:m = true->Sim H H') (h:RelM m K H F d v):RelM m K H' F' d v:=by
 cases m with
 | true=>exact dD.same fd s (k rfl) h
 | false=>exact Rel.step fd s d v h
noncomputable def ft (K:PySem.W.Frag) (G:Gh) (F:av->Prop) (H:Hp) (o:Option (Option V)):Sl->Prop
 | .no=>True
 | .val d=>∃ v,o = some (some v)/\Rel K H F d v
 | .own ds=>∃ a xs,o = some (some (.ref a))/\F a/\G.free a/\H a = some (.lst xs)/\aG K H F ds xs
 | .fnc k cs=>∃ a,o = some (some (.ref a))/\FnV H k cs a
noncomputable def ow:Sl->Bool
 | .own _=>true
 | _=>false
structure Ok (K:PySem.W.Frag) (G:Gh) (F:av->Prop) (σ:St) (H:Hp) (δ:Loc):Prop where
 same:Sim G.h H
 fd:FD F H
 rf:∀ b,G.R b->F b
 rl:∀ b,G.R b->∃ o,H b = some o/\Mo o
 tf:TF F
 tabs:gU H
 len:δ.length = σ.length
 sl:∀ (i:Nat) (s:Sl),δ[i]? = some s->ft K G F H σ[i]? s
 apart:∀ (i j:Nat) (s t:Sl) (a:av),δ[i]? = some s->δ[j]? = some t->ow s = true->ow t = true->σ[i]? = some (some (.ref a))->σ[j]? = some (some (.ref a))->i = j
section
variable {K:PySem.W.Frag} {G:Gh} {H H':Hp} {F F':av->Prop} {σ:St} {δ:Loc}
theorem ft.same {o:Option (Option V)} (fd:FD F H) (k:iO H H'):∀ {s:Sl},ft K G F H o s->ft K G F H' o s
 | .no,_=>trivial
 | .val d,h=>by
   obtain ⟨v,e,h⟩:=h
   exact ⟨v,e,Rel.step (G:=G) fd (Step.of_same k) d v h⟩
 | .own ds,h=>by
   obtain ⟨a,xs,e,h1,h2,h3,h4⟩:=h
   exact ⟨a,xs,e,h1,h2,k _ _ h3,aG.step (G:=G) fd (Step.of_same k) ds xs h4⟩
 | .fnc n cs,h=>by
   obtain ⟨a,e,h⟩:=h;exact ⟨a,e,h.keep fun a o z=>k _ _ z⟩
theorem FD.same (fd:FD F H) (k:iO H H'):FD F H':=fun b h=>by
 obtain ⟨o,e,q⟩:=fd b h;exact ⟨o,k _ _ e,q⟩
theorem xX {P:av->Prop} (h:∀ b,P b->∃ o,H b = some o/\Mo o) (k:iO H H'):∀ b,P b->∃ o,H' b = some o/\Mo o:=fun b z=>by
 obtain ⟨o,e,q⟩:=h b z;exact ⟨o,k _ _ e,q⟩
theorem Ok.same' (h:Ok K G F σ H δ) (k:iO H H'):Ok K G F σ H' δ :=
 ⟨h.same.trans (.of k),h.fd.same k,h.rf,xX h.rl k,h.tf,h.tabs.keep fun b o _ e=>k b o e,h.len,fun i s e=>(h.sl i s e).same h.fd k,h.apart⟩
theorem bV (h:H p = none) (o:HO):iO H (upd H p o):=fun b u q=>by rw [bq (gj q h)];exact q
theorem ft.less {o:Option (Option V)} (fd:FD F H) (hs:∀ b,F' b->F b):∀ {s:Sl},(∀ a,ow s = true->o = some (some (.ref a))->F' a)->ft K G F H o s->ft K G F' H o s
 | .no,_,_=>trivial
 | .val d,_,h=>by
   obtain ⟨v,e,h⟩:=h
   exact ⟨v,e,Rel.less fd hs h⟩
 | .own ds,q,h=>by
   obtain ⟨a,xs,e,h1,h2,h3,h4⟩:=h
   exact ⟨a,xs,e,q a rfl e,h2,h3,aG.less fd hs h4⟩
 | .fnc n cs,_,h=>h
inductive gX (K:PySem.W.Frag) (H:Hp) (F:av->Prop):D->HO->Prop
 | lst {ds:List D} {xs:List V}:aG K H F ds xs->gX K H F (.lst ds) (.lst xs)
noncomputable def owS:D->Sl
 | .lst ds=>.own ds
 | _=>.no
theorem GA {d d':D} (h:ow (owS d) = true) (e:owS d = owS d'):d = d':=by
 cases d<;>first | (cases h;done) | skip
 . cases d'<;>first | (cases e;rfl) | cases e
theorem gX.mo {d:D} {o:HO} (h:gX K H F d o):Mo o/\ow (owS d) = true:=by
 cases h<;>exact ⟨trivial,rfl⟩
theorem gX.step (fd:FD F H) (s:Step G F H F' H') {d:D} {o:HO} (h:gX K H F d o):gX K H' F' d o:=by
 cases h with
 | lst h=>exact .lst (aG.step fd s _ _ h)
theorem gX.sl {o:Option (Option V)} {a:av} {d:D} {u:HO} (e:o = some (some (.ref a))) (hF:F a) (hg:G.free a) (h:H a = some u) (r:gX K H F d u):ft K G F H o (owS d):=by
 cases r with
 | lst r=>exact ⟨a,_,e,hF,hg,h,r⟩
theorem ft.ow {o:Option (Option V)} {s:Sl} (h:ft K G F H o s) (q:ow s = true):∃ a u d,o = some (some (.ref a))/\F a/\G.free a/\H a = some u/\gX K H F d u/\s = owS d:=by
 cases s with
 | own ds =>
   obtain ⟨a,xs,e,h1,h2,h3,h4⟩:=h
   exact ⟨a,_,.lst ds,e,h1,h2,h3,.lst h4,rfl⟩
 | _=>cases q
theorem ft.stay0 (fd:FD F H) (st:Step G' F H F' H') (k:∀ a u,o = some (some (.ref a))->F a->G.free a->H a = some u->F' a/\H' a = some u):∀ {s:Sl},ft K G F H o s->ft K G F' H' o s
 | .no,_=>trivial
 | .fnc n cs,h=>by
   obtain ⟨v,e,z⟩:=h
   exact ⟨v,e,z.keep (oV fd st.keep)⟩
 | .val d,h=>by
   obtain ⟨v,e,z⟩:=h
   exact ⟨v,e,Rel.step fd st d v z⟩
 | .own ds,h=>by
   obtain ⟨a,u,d,e,h1,h2,h3,h4,e5⟩:=ft.ow h rfl;rw [e5];obtain ⟨k1,k2⟩:=k a u e h1 h2 h3;exact gX.sl e k1 h2 k2 (h4.step fd st)
theorem ft.stay {o:Option (Option V)} (fd:FD F H) (st:Step G F H F' H') (k:∀ a u,o = some (some (.ref a))->F a->G.free a->H a = some u->F' a/\H' a = some u) {s:Sl} (h:ft K G F H o s):ft K G F' H' o s:=ft.stay0 fd st k h
theorem ft.free {G':Gh} {o:Option (Option V)} (k:∀ a,F a->G.free a->G'.free a):∀ {s:Sl},ft K G F H o s->ft K G' F H o s
 | .no,_=>trivial
 | .fnc n cs,h=>h
 | .val d,h=>h
 | .own ds,h=>by
   obtain ⟨a,xs,e,h1,h2,h3⟩:=h;exact ⟨a,xs,e,h1,k a h1 h2,h3⟩
theorem gX.rel (fd:FD F H) (hs:∀ b,F' b->F b) {a:av} (n:¬ F' a) {d:D} {u:HO} (h:H a = some u) (r:gX K H F d u):Rel K H F' d (.ref a):=by
 cases r with
 | lst r =>
   unfold Rel;exact ⟨a,_,rfl,.inl ⟨.inl h,n⟩,aG.less fd hs r⟩
theorem fM {α:Type} {l:List α} {i j:Nat} {x y:α} (hi:i < l.length) (q:(l.set i x)[j]? = some y):(j = i/\y = x)\/(j≠i/\l[j]? = some y):=by
 by_cases hj:j = i
 . subst hj;rw [cL hi] at q;cases q;exact .inl ⟨rfl,rfl⟩
 . rw [bF (Ne.symm hj)] at q;exact .inr ⟨hj,q⟩
theorem Ok.demote (h:Ok K G F σ H δ) {i:Nat} {d:D} {a:av} (e:δ[i]? = some (owS d)) (eo:ow (owS d) = true) (ea:σ[i]? = some (some (.ref a))) :
 Ok K G (fun b=>F b/\b≠a) σ H (δ.set i (.val d))/\Rel K H (fun b=>F b/\b≠a) d (.ref a):=by
 have hi:i < δ.length:=(aH.mp e).1;obtain ⟨a',u,d',e1,h1,h2,h3,h4,ed⟩:=ft.ow (h.sl i _ e) eo;rw [ea] at e1;cases e1;have ed:=GA eo ed;subst ed;have hs:∀ b,(F b/\b≠a)->F b:=fun b z=>z.1;have r:Rel K H (fun b=>F b/\b≠a) d (.ref a):=gX.rel h.fd hs (fun z=>z.2 rfl) h3 h4
 have tf':TF fun b=>F b/\b≠a:=fun t ht=>⟨h.tf t ht,fun w=>by
  obtain ⟨ps,e2,_⟩:=h.tabs t ht;rw [w,h3] at e2;cases e2;exact h4.mo.1⟩
 refine ⟨⟨h.same,fun b z=>h.fd b z.1,fun b z=>⟨h.rf b z,fun w=>h2.2 (by rw [<- w];exact z)⟩,h.rl,tf',h.tabs,by rw [bR];exact h.len,fun j s q=>?_,fun j k s t b q1 q2 o1 o2 p1 p2=>?_⟩,r⟩
 . rcases fM hi q with ⟨rfl,rfl⟩ | ⟨hj,q⟩
   . exact ⟨.ref a,ea,r⟩
   . refine (h.sl j s q).less h.fd hs fun b z zb=>?_;obtain ⟨b',u',d',e1,f1,_⟩:=ft.ow (h.sl j _ q) z;rw [zb] at e1;cases e1;exact ⟨f1,fun w=>hj (h.apart j i _ _ a q e z eo (by rw [zb,w]) ea)⟩
 . rcases fM hi q1 with ⟨rfl,rfl⟩ | ⟨hj,q1⟩
   . cases o1
   . rcases fM hi q2 with ⟨rfl,rfl⟩ | ⟨hk,q2⟩
     . cases o2
     . exact h.apart j k s t b q1 q2 o1 o2 p1 p2
theorem Ok.set (h:Ok K G F σ H δ) {i:Nat} {d:D} {v:V} (hi:i < δ.length) (r:Rel K H F d v):Ok K G F (σ.set i (some v)) H (δ.set i (.val d)):=by
 have hi':i < σ.length:=by rw [<- h.len];exact hi
 refine ⟨h.same,h.fd,h.rf,h.rl,h.tf,h.tabs,by rw [bR,bR];exact h.len,fun j s q=>?_,fun j k s t b q1 q2 o1 o2 p1 p2=>?_⟩
 . rcases fM hi q with ⟨rfl,rfl⟩ | ⟨hj,q⟩
   . exact ⟨v,by rw [cL hi'],r⟩
   . rw [bF (Ne.symm hj)];exact h.sl j s q
 . rcases fM hi q1 with ⟨rfl,rfl⟩ | ⟨hj,q1⟩
   . cases o1
   . rcases fM hi q2 with ⟨rfl,rfl⟩ | ⟨hk,q2⟩
     . cases o2
     . rw [bF (Ne.symm hj)] at p1;rw [bF (Ne.symm hk)] at p2;exact h.apart j k s t b q1 q2 o1 o2 p1 p2
theorem Ok.ownO (h:Ok K G F σ H δ) {i:Nat} {d:D} {u:HO} {p:av} (hi:i < δ.length) (hp:F p) (hg:G.free p) (e:H p = some u) (r:gX K H F d u)
 (hn:∀ (j:Nat) s,δ[j]? = some s->ow s = true->σ[j]?≠some (some (.ref p))):Ok K G F (σ.set i (some (.ref p))) H (δ.set i (owS d)):=by
 have hi':i < σ.length:=by rw [<- h.len];exact hi
 refine ⟨h.same,h.fd,h.rf,h.rl,h.tf,h.tabs,by rw [bR,bR];exact h.len,fun j s q=>?_,fun j k s t b q1 q2 o1 o2 p1 p2=>?_⟩
 . rcases fM hi q with ⟨rfl,rfl⟩ | ⟨hj,q⟩
   . exact gX.sl (by rw [cL hi']) hp hg e r
   . rw [bF (Ne.symm hj)];exact h.sl j s q
 . rcases fM hi q1 with ⟨rfl,rfl⟩ | ⟨hj,q3⟩
   . rcases fM hi q2 with ⟨rfl,rfl⟩ | ⟨hk,q2⟩
     . rfl
     . rw [cL hi'] at p1;rw [bF (Ne.symm hk)] at p2;cases p1;exact (hn k t q2 o2 p2).elim
   . rw [bF (Ne.symm hj)] at p1;rcases fM hi q2 with ⟨rfl,rfl⟩ | ⟨hk,q2⟩
     . rw [cL hi'] at p2;cases p2;exact (hn j s q3 o1 p1).elim
     . rw [bF (Ne.symm hk)] at p2;exact h.apart j k s t b q3 q2 o1 o2 p1 p2
theorem Ok.own (h:Ok K G F σ H δ) {i:Nat} {ds:List D} {xs:List V} {p:av} (hi:i < δ.length) (hp:F p) (hg:G.free p) (e:H p = some (.lst xs)) (r:aG K H F ds xs)
 (hn:∀ (j:Nat) s,δ[j]? = some s->ow s = true->σ[j]?≠some (some (.ref p))):Ok K G F (σ.set i (some (.ref p))) H (δ.set i (.own ds)):=h.ownO (d:=.lst ds) hi hp hg e (.lst r) hn
theorem Ok.writeO (h:Ok K G F σ H δ) {i:Nat} {d d':D} {a:av} {u:HO} (e:δ[i]? = some (owS d)) (eo:ow (owS d) = true) (ea:σ[i]? = some (some (.ref a))) (r:gX K H F d' u) :
 Ok K G F σ (upd H a u) (δ.set i (owS d'))/\Step G F H F (upd H a u):=by
 have hi:i < δ.length:=(aH.mp e).1;have e':=e;obtain ⟨a',x,d0,e1,h1,h2,h3,h4,_⟩:=ft.ow (h.sl i _ e) eo;rw [ea] at e1;cases e1
 have nt:NT x:=by
  have m:=h4.mo.1;cases x<;>first | trivial | exact m
 have st:Step G F H F (upd H a u):=⟨fun b o _ q n=>by
  rw [bq (fun z:b = a=>n (by rw [z];exact h1))];exact q,fun b z=>.inl z,fun b o r z e=>⟨z,by rw [bq (fun w:b = a=>h2.2 (by rw [<- w];exact r))];exact e⟩,fun b ps e=>⟨ps,by rw [bq (fun w:b = a=>by rw [w,h3] at e;cases e;exact nt)];exact e⟩⟩
 have tb':gU (upd H a u):=h.tabs.keep fun b o n e=>by rw [bq (fun w:b = a=>by rw [w,h3] at e;cases e;exact n h4.mo.1)];exact e
 refine ⟨⟨⟨fun b o t q=>?_,fun b ps q=>?_⟩,fun b z=>?_,h.rf,fun b z=>?_,h.tf,tb',by rw [bR];exact h.len,fun j s q=>?_,fun j k s t b q1 q2 o1 o2 p1 p2=>?_⟩,st⟩
 . have:=h.same.nt b o t q;rw [bq (fun z:b = a=>by rw [z,h2.1] at q;cases q)];exact this
 . rw [bq (fun z:b = a=>by rw [z,h2.1] at q;cases q)];exact h.same.tb b ps q
 . by_cases hb:b = a
   . subst hb;exact ⟨u,bP,.inl r.mo.1⟩
   . rw [bq hb];exact h.fd b z
 . by_cases hb:b = a
   . subst hb;exact ⟨u,bP,r.mo.1⟩
   . rw [bq hb];exact h.rl b z
 . rcases fM hi q with ⟨rfl,rfl⟩ | ⟨hj,q⟩
   . exact gX.sl ea h1 h2 bP (r.step h.fd st)
   . cases eq:ow s with
     | true =>
       refine ft.stay h.fd st (fun b v e f1 f2 f3=>⟨f1,?_⟩) (h.sl j s q);rw [bq (fun w:b = a=>hj (h.apart j i _ _ a q e' eq eo (by rw [e,w]) ea))]
       exact f3
     | false =>
       have z:=h.sl j s q
       cases s with
       | no=>trivial
       | fnc n cs =>
         obtain ⟨v,e,z⟩:=z
         exact ⟨v,e,z.keep (oV h.fd st.keep)⟩
       | val d =>
         obtain ⟨v,e,z⟩:=z
         exact ⟨v,e,Rel.step h.fd st d v z⟩
       | own _=>cases eq
 . have un:∀ (m:Nat) (g:Sl),(δ.set i (owS d'))[m]? = some g->ow g = true->∃ g',δ[m]? = some g'/\ow g' = true:=fun m g q o=>by
    rcases fM hi q with ⟨rfl,rfl⟩ | ⟨hj,q⟩
    . exact ⟨_,e,eo⟩
    . exact ⟨g,q,o⟩
   obtain ⟨g1,q1,o1⟩:=un j _ q1 o1;obtain ⟨g2,q2,o2⟩:=un k _ q2 o2;exact h.apart j k g1 g2 b q1 q2 o1 o2 p1 p2
theorem Ok.write (h:Ok K G F σ H δ) (e:δ[i]? = some (.own ds)) (ea:σ[i]? = some (some (.ref a))) (r:aG K H F es ys) :
 Ok K G F σ (upd H a (.lst ys)) (δ.set i (.own es))/\Step G F H F (upd H a (.lst ys)):=h.writeO (d:=.lst ds) (d':=.lst es) e rfl ea (.lst r)
theorem Mo.nt {o:HO} (m:Mo o):NT o:=by
 cases o<;>first | trivial | exact m
theorem Step.of_sim (rl:∀ b,G.R b->∃ o,H b = some o/\Mo o) (k:Sim H H'):Step G F H F H':=⟨fun b o t e _=>k.nt b o t e,fun b z=>.inl z,fun b o r f e=>⟨f,by
 obtain ⟨u,e2,m⟩:=rl b r;rw [e] at e2;cases e2;exact k.nt b _ m.nt e⟩,k.tb⟩
theorem Ok.call (h:Ok K G F σ H δ) (k:Sim H H') (t:gU H'):Ok K G F σ H' δ/\Step G F H F H':=by
 have st:Step G F H F H':=Step.of_sim h.rl k;refine ⟨⟨h.same.trans k,fun b z=>?_,h.rf,fun b z=>?_,h.tf,t,h.len,fun i s e=>?_,h.apart⟩,st⟩
 . obtain ⟨o,e,m⟩:=h.fd b z;rcases m with m | ⟨⟨ps,rfl⟩,t⟩
   . exact ⟨o,k.nt _ _ m.nt e,.inl m⟩
   . obtain ⟨qs,e⟩:=k.tb b ps e;exact ⟨_,e,.inr ⟨⟨qs,rfl⟩,t⟩⟩
 . obtain ⟨o,e,m⟩:=h.rl b z;exact ⟨o,k.nt _ _ m.nt e,m⟩
 . cases eq:ow s with
   | true =>
     obtain ⟨_,_,_,_,_,_,h3,h4,_⟩:=ft.ow (h.sl i s e) eq;refine ft.stay h.fd st (fun b v e2 f1 f2 f3=>⟨f1,?_⟩) (h.sl i s e);obtain ⟨o,e3,m⟩:=h.fd b f1;rw [f3] at e3;cases e3;rcases m with m | ⟨⟨ps,rfl⟩,t,ht,eb⟩
     . exact k.nt _ _ m.nt f3
     . exfalso;obtain ⟨c,w,d,e5,_,_,e7,r7,_⟩:=ft.ow (h.sl i s e) eq;rw [e2] at e5;cases e5;rw [f3] at e7;cases e7
       exact r7.mo.1
   | false =>
     have q:=h.sl i s e
     cases s with
     | no=>trivial
     | fnc n cs =>
       obtain ⟨v,e,r⟩:=q
       exact ⟨v,e,r.keep (oV h.fd st.keep)⟩
     | val d =>
       obtain ⟨v,e,r⟩:=q
       exact ⟨v,e,Rel.step h.fd st d v r⟩
     | own _=>cases eq
end
end PP
end
section
namespace PP
open PySem L2 PyProof.Rows PySem.SeqAt
variable [Tbs]
theorem Av (xs:List (Array Nat)):∀ a:Array Nat,(xs.foldl (·++·) a).toList = a.toList++(xs.map (·.toList)).flatten:=by
 induction xs with
 | nil=>intro a;simp
 | cons x r ih=>intro a;rw [kK,ih];simp
theorem GP (x:Str) (n:Int) (h:0<=n):Txt.mul x n = wD x n.toNat:=by
 unfold Txt.mul wD;by_cases h1:n < 1
 . have:n = 0:=by lia
   subst this;rfl
 . rw [if_neg h1];by_cases h2:(n == 1 || x.length == 0) = true
   . rw [if_pos h2];rw [cw] at h2;rcases h2 with h2 | h2
     . have:n = 1:=by simpa using h2
       subst this;simp
     . have e:x.cps = #[]:=by
        have:x.cps.size = 0:=by simpa [Str.length] using h2
        exact Array.eq_empty_of_size_eq_zero this
       cases x;simp at e;subst e;simp
   . rw [if_neg h2];congr 1;apply Array.ext';rw [Av];simp
theorem GB:OpR X (binaryOp .Mult) (fun x y H Q=>∃ i n,x = .str i/\y = .int n/\(0<=n/\n<=1000/\i.length<=1000)/\Q (.str (wD i n.toNat)) H):=by
 intro pins s σ H x y v u Q I rx ry h;obtain ⟨i,n,rfl,rfl,⟨h1,h2,h3⟩,q⟩:=h;obtain ⟨t,rfl⟩:=rx;obtain ⟨t',rfl⟩:=ry;refine SB.mul ⟨?_,fun a _ b=>?_,fun a _=>?_⟩ fun t' k=>?_
 . simp;lia
 . have:(1000:Int)<=(2 ^ 63 - 1) / n:=by rw [Int.le_ediv_iff_mul_le (by lia)];lia
   lia
 . have:i.length * n.toNat<=1000 * 1000:=Nat.mul_le_mul h3 (by lia);have z:=cj;unfold Builtin.Str.tooLong;simp
   lia
 . rw [GP i n h1];exact ⟨.str _,H,I.tok _,⟨_,rfl⟩,q⟩
mutual
noncomputable def RdV (h:bJ):D->af->Prop
 | .non,u=>u = .none
 | .bl b,u=>u = .bool b
 | .int i,u=>∃ t,u = .int i t
 | .str x,u=>∃ t,u = .str x t
 | .lst ds,u=>∃ a its,u = .ref a/\h.IsList a its/\RdL h ds its.toList
 | .tup ds,u=>∃ a its,u = .ref a/\h.IsTuple a its/\RdL h ds its.toList
 | .fn _ _,_=>False
noncomputable def RdL (h:bJ):List D->List af->Prop
 | [],us=>us = []
 | d::ds,us=>∃ w ws,us = w::ws/\RdV h d w/\RdL h ds ws
end
mutual
theorem CF (I:Inv X pins σ H s):∀ (d:D) (v:V) (u:af),Rel X.K H F d v->RelV v u->dep d < 100000->RdV s.heap d u
 | .non,v,u,h,r,_=>by unfold Rel at h;subst h;unfold RdV;exact r
 | .bl b,v,u,h,r,_=>by unfold Rel at h;subst h;unfold RdV;exact r
 | .int b,v,u,h,r,_=>by unfold Rel at h;subst h;unfold RdV;exact r
 | .str b,v,u,h,r,_=>by unfold Rel at h;subst h;unfold RdV;exact r
 | .lst ds,v,u,h,r,hd=>by
   unfold dep at hd;unfold Rel at h;obtain ⟨a,xs,e,h1,h3⟩:=h;subst e;cases (show u = iK a from r);obtain ⟨its,rv,p,hz⟩:=I.list h1.sq;unfold RdV
   exact ⟨a,its.toArray,rfl,p.isList,pQ I ds xs its h3 rv (by lia)⟩
 | .tup ds,v,u,h,r,hd=>by
   unfold dep at hd;unfold Rel at h;obtain ⟨a,xs,e,h1,h3⟩:=h;subst e;cases (show u = iK a from r);obtain ⟨its,rv,p,hz⟩:=I.tuple h1;unfold RdV
   exact ⟨a,its.toArray,rfl,p,pQ I ds xs its h3 rv (by lia)⟩
 | .fn _ _,v,u,h,r,_=>by unfold Rel at h;exact h.elim
theorem pQ (I:Inv X pins σ H s):∀ (ds:List D) (xs:List V) (us:List af),aG X.K H F ds xs->Vals xs us->cN ds < 100000->RdL s.heap ds us
 | [],xs,us,h,r,_=>by unfold aG at h;subst h;cases r;unfold RdL;rfl
 | d::ds,xs,us,h,r,hd=>by
   unfold cN at hd;unfold aG at h;obtain ⟨y,ys,e,h1,h2⟩:=h;subst e
   cases r with
   | cons r1 r2 =>
     unfold RdL;exact ⟨_,_,rfl,CF I d y _ h1 r1 (by lia),pQ I ds ys _ h2 r2 (by lia)⟩
end
theorem fw (I:Inv X pins σ H s) (h:dD X.K H F d v) (r:RelV v u) (hd:dep d < 100000):RdV s.heap d u:=by
 rcases h with h | ⟨a,xs,ds,rfl,rfl,h1,h2⟩
 . exact CF I d v u h r hd
 . cases (show u = iK a from r);obtain ⟨its,rv,p,hz⟩:=I.list (.inl (.inl h1));unfold RdV;unfold dep at hd;exact ⟨a,its.toArray,rfl,p.isList,pQ I ds xs its h2 rv (by lia)⟩
mutual
theorem RdV.inj:∀ (d e:D) (u:af),RdV h d u->RdV h e u->d = e
 | .non,e,u,a,b=>by
   unfold RdV at a;subst a
   cases e<;>unfold RdV at b<;>first | rfl | (obtain ⟨_,_,b,_⟩:=b;cases b;done) | (obtain ⟨_,b⟩:=b;cases b;done) | (cases b;done)
 | .bl x,e,u,a,b=>by
   unfold RdV at a;subst a
   cases e<;>unfold RdV at b<;>first | (cases b;rfl) | (obtain ⟨_,_,b,_⟩:=b;cases b;done) | (obtain ⟨_,b⟩:=b;cases b;done) | (cases b;done)
 | .int x,e,u,a,b=>by
   unfold RdV at a;obtain ⟨t,a⟩:=a;subst a
   cases e<;>unfold RdV at b<;>first | (obtain ⟨_,_,b,_⟩:=b;cases b;done) | (obtain ⟨_,b⟩:=b;cases b;rfl) | (obtain ⟨_,b⟩:=b;cases b;done) | (cases b;done)
 | .str x,e,u,a,b=>by
   unfold RdV at a;obtain ⟨t,a⟩:=a;subst a
   cases e<;>unfold RdV at b<;>first | (obtain ⟨_,_,b,_⟩:=b;cases b;done) | (obtain ⟨_,b⟩:=b;cases b;rfl) | (obtain ⟨_,b⟩:=b;cases b;done) | (cases b;done)
 | .lst ds,e,u,a,b=>by
   unfold RdV at a;obtain ⟨l,its,a,h1,h2⟩:=a;subst a
   cases e with
   | lst es =>
     unfold RdV at b;obtain ⟨l',its',b,k1,k2⟩:=b;cases b;obtain ⟨o,g1,g2,n,g3⟩:=h1;obtain ⟨o',f1,f2,n',f3⟩:=k1;rw [g1] at f1;cases f1;rw [g3] at f3;cases f3
     rw [RdL.inj ds es _ h2 k2]
   | tup es =>
     unfold RdV at b;obtain ⟨l',its',b,k1,k2⟩:=b;cases b;obtain ⟨o,g1,g2,_⟩:=h1;obtain ⟨o',f1,f2,_⟩:=k1;rw [g1] at f1;cases f1
     rw [g2] at f2;injection f2 with f2;exact absurd f2 (by decide)
   | _=>unfold RdV at b;first | (obtain ⟨_,b⟩:=b;cases b) | cases b
 | .tup ds,e,u,a,b=>by
   unfold RdV at a;obtain ⟨l,its,a,h1,h2⟩:=a;subst a
   cases e with
   | tup es =>
     unfold RdV at b;obtain ⟨l',its',b,k1,k2⟩:=b;cases b;obtain ⟨o,g1,g2,n,g3⟩:=h1;obtain ⟨o',f1,f2,n',f3⟩:=k1;rw [g1] at f1;cases f1;rw [g3] at f3;cases f3
     rw [RdL.inj ds es _ h2 k2]
   | lst es =>
     unfold RdV at b;obtain ⟨l',its',b,k1,k2⟩:=b;cases b;obtain ⟨o,g1,g2,_⟩:=h1;obtain ⟨o',f1,f2,_⟩:=k1;rw [g1] at f1;cases f1
     rw [g2] at f2;injection f2 with f2;exact absurd f2 (by decide)
   | _=>unfold RdV at b;first | (obtain ⟨_,b⟩:=b;cases b) | cases b
 | .fn _ _,e,u,a,b=>by unfold RdV at a;exact a.elim
theorem RdL.inj:∀ (ds es:List D) (us:List af),RdL h ds us->RdL h es us->ds = es
 | [],es,us,a,b=>by
   unfold RdL at a;subst a
   cases es with
   | nil=>rfl
   | cons e es=>unfold RdL at b;obtain ⟨_,_,b,_⟩:=b;cases b
 | d::ds,es,us,a,b=>by
   unfold RdL at a;obtain ⟨w,ws,a,h1,h2⟩:=a;subst a
   cases es with
   | nil=>unfold RdL at b;cases b
   | cons e es =>
     unfold RdL at b;obtain ⟨_,_,b,k1,k2⟩:=b;cases b;rw [RdV.inj d e w h1 k1,RdL.inj ds es ws h2 k2]
end
mutual
theorem kC:∀ d:D,dep d < 100000->eqD d d = true
 | .non,_=>by unfold eqD;rfl
 | .bl b,_=>by unfold eqD;simp
 | .int b,_=>by unfold eqD;simp
 | .str b,_=>by unfold eqD;simp
 | .lst ds,h=>by unfold eqD;exact nG ds (by unfold dep at h;lia)
 | .tup ds,h=>by unfold eqD;exact nG ds (by unfold dep at h;lia)
 | .fn _ _,h=>by unfold dep at h;lia
theorem nG:∀ ds:List D,cN ds < 100000->gM ds ds = true
 | [],_=>by unfold gM;rfl
 | d::ds,h=>by
   unfold cN at h;unfold gM;rw [kC d (by lia),nG ds (by lia)];rfl
end
noncomputable def pairD (ds es:List D) (j:Nat):Bool:=match ds[j]?,es[j]? with
 | some x,some y=>eqD x y
 | _,_=>false
theorem kO:∀ (ds es:List D),(bC (min ds.length es.length)).all (pairD ds es) = true/\ds.length = es.length↔gM ds es = true
 | [],[]=>by unfold gM;simp
 | [],_::_=>by unfold gM;simp
 | _::_,[]=>by unfold gM;simp
 | d::ds,e::es=>by
   have ih:=kO ds es;have e1:min (d::ds).length (e::es).length = min ds.length es.length+1:=by simp only [ak];lia
   rw [e1,List.range_succ_eq_map,fU,List.all_map];have e2:(pairD (d::ds) (e::es) ∘ Nat.succ) = pairD ds es:=by funext j;simp [pairD]
   rw [e2];unfold gM;rw [aa,aa,<- ih];have e3:pairD (d::ds) (e::es) 0 = eqD d e:=rfl;rw [e3];simp only [ak];constructor
   . rintro ⟨⟨a,b⟩,c⟩;exact ⟨a,b,by lia⟩
   . rintro ⟨a,b,c⟩;exact ⟨⟨a,b⟩,by lia⟩
theorem qj (h:ds.length = es.length):(bC ds.length).all (pairD ds es) = gM ds es:=by
 have q:=kO ds es;rw [<- h,xE] at q;rw [dF];rw [<- q];simp
theorem tQ (h:ds.length≠es.length):gM ds es = false:=by
 have q:=kO ds es;rw [fg];intro z;exact h (q.mpr z).2
theorem nH (ds es:List D):((bC (min ds.length es.length)).all (pairD ds es) && ds.length == es.length) = gM ds es:=by
 have q:=kO ds es;rw [dF,aa,<- q];simp
theorem RdL.length:∀ {ds:List D} {us:List af},RdL h ds us->us.length = ds.length
 | [],us,a=>by unfold RdL at a;subst a;rfl
 | d::ds,us,a=>by
   unfold RdL at a;obtain ⟨w,ws,a,_,h2⟩:=a;subst a;rw [ak,ak,RdL.length h2]
theorem mm1 (a b c d:Nat):min a c<=min (max a b) (max c d):=Nat.le_min.mpr ⟨bc (Ia _ _) (Ib _ _),bc (qx _ _) (Ib _ _)⟩
theorem mm2 (a b c d:Nat):min b d<=min (max a b) (max c d):=Nat.le_min.mpr ⟨bc (Ia _ _) (Hy _ _),bc (qx _ _) (Hy _ _)⟩
mutual
theorem tR:∀ (a b:D) (A:ba) (s:ai) (u v:af),RdV s.heap a u->RdV s.heap b v->A.units+min (dep a) (dep b) < cLine->EqAt A s u v (eqD a b)
 | .non,b,A,s,u,v,ra,rb,hu=>by
   unfold RdV at ra;subst ra
   cases b with
   | non=>unfold RdV at rb;subst rb;unfold eqD;exact Ff _
   | bl b=>unfold RdV at rb;subst rb;unfold eqD;exact EqAt.none_bool b
   | int b=>unfold RdV at rb;obtain ⟨t,rfl⟩:=rb;unfold eqD;exact EqAt.none_int b t
   | str b=>unfold RdV at rb;obtain ⟨t,rfl⟩:=rb;unfold eqD;exact EqAt.none_str b t
   | lst ds=>unfold RdV at rb;obtain ⟨l,its,rfl,h1,h2⟩:=rb;unfold eqD;exact EqAt.none_list h1 (by lia)
   | tup ds=>unfold RdV at rb;obtain ⟨l,its,rfl,h1,h2⟩:=rb;unfold eqD;exact EqAt.none_tuple h1 (by lia)
   | fn _ _=>unfold RdV at rb;exact rb.elim
 | .bl a,b,A,s,u,v,ra,rb,hu=>by
   unfold RdV at ra;subst ra
   cases b with
   | non=>unfold RdV at rb;subst rb;unfold eqD;exact EqAt.bool_none a
   | bl b=>unfold RdV at rb;subst rb;unfold eqD;exact EqAt.bool_bool a b
   | int b=>unfold RdV at rb;obtain ⟨t,rfl⟩:=rb;unfold eqD;exact EqAt.bool_int a b t
   | str b=>unfold RdV at rb;obtain ⟨t,rfl⟩:=rb;unfold eqD;exact EqAt.bool_str a b t
   | lst ds=>unfold RdV at rb;obtain ⟨l,its,rfl,h1,h2⟩:=rb;unfold eqD;exact EqAt.bool_list a h1 (by lia)
   | tup ds=>unfold RdV at rb;obtain ⟨l,its,rfl,h1,h2⟩:=rb;unfold eqD;exact EqAt.bool_tuple a h1 (by lia)
   | fn _ _=>unfold RdV at rb;exact rb.elim
 | .int a,b,A,s,u,v,ra,rb,hu=>by
   unfold RdV at ra;obtain ⟨t',rfl⟩:=ra
   cases b with
   | non=>unfold RdV at rb;subst rb;unfold eqD;exact EqAt.int_none a t'
   | bl b=>unfold RdV at rb;subst rb;unfold eqD;exact EqAt.int_bool a t' b
   | int b=>unfold RdV at rb;obtain ⟨t,rfl⟩:=rb;unfold eqD;exact EqAt.int_int a t' b t
   | str b=>unfold RdV at rb;obtain ⟨t,rfl⟩:=rb;unfold eqD;exact EqAt.int_str a t' b t
   | lst ds=>unfold RdV at rb;obtain ⟨l,its,rfl,h1,h2⟩:=rb;unfold eqD;exact EqAt.int_list a t' h1 (by lia)
   | tup ds=>unfold RdV at rb;obtain ⟨l,its,rfl,h1,h2⟩:=rb;unfold eqD;exact EqAt.int_tuple a t' h1 (by lia)
   | fn _ _=>unfold RdV at rb;exact rb.elim
 | .str a,b,A,s,u,v,ra,rb,hu=>by
   unfold RdV at ra;obtain ⟨t',rfl⟩:=ra
   cases b with
   | non=>unfold RdV at rb;subst rb;unfold eqD;exact EqAt.str_none a t'
   | bl b=>unfold RdV at rb;subst rb;unfold eqD;exact EqAt.str_bool a t' b
   | int b=>unfold RdV at rb;obtain ⟨t,rfl⟩:=rb;unfold eqD;exact EqAt.str_int a t' b t
   | str b=>unfold RdV at rb;obtain ⟨t,rfl⟩:=rb;unfold eqD;exact EqAt.str_str a t' b t
   | lst ds=>unfold RdV at rb;obtain ⟨l,its,rfl,h1,h2⟩:=rb;unfold eqD;exact EqAt.str_list a t' h1 (by lia)
   | tup ds=>unfold RdV at rb;obtain ⟨l,its,rfl,h1,h2⟩:=rb;unfold eqD;exact EqAt.str_tuple a t' h1 (by lia)
   | fn _ _=>unfold RdV at rb;exact rb.elim
 | .lst ds,b,A,s,u,v,ra,rb,hu=>by
   have ra':=ra;unfold RdV at ra;obtain ⟨l,its,rfl,h1,h2⟩:=ra
   cases b with
   | non=>unfold RdV at rb;subst rb;unfold eqD;exact EqAt.list_none h1 (by lia)
   | bl b=>unfold RdV at rb;subst rb;unfold eqD;exact EqAt.list_bool b h1 (by lia)
   | int b=>unfold RdV at rb;obtain ⟨t,rfl⟩:=rb;unfold eqD;exact EqAt.list_int b t h1 (by lia)
   | str b=>unfold RdV at rb;obtain ⟨t,rfl⟩:=rb;unfold eqD;exact EqAt.list_str b t h1 (by lia)
   | tup es=>unfold RdV at rb;obtain ⟨l',its',rfl,k1,k2⟩:=rb;unfold eqD;exact EqAt.list_tuple h1 k1 (by lia)
   | lst es =>
     have rb':=rb;unfold RdV at rb;obtain ⟨l',its',rfl,k1,k2⟩:=rb;by_cases hl:l = l'
     . subst hl;have e:=RdV.inj _ _ _ ra' rb';cases e;have hd:dep (.lst ds) < 100000:=by rw [xE] at hu;have:cLine = 9900:=rfl;lia
       rw [kC _ hd];exact Ff _
     . unfold eqD;have n1:its.size = ds.length:=by simpa using h2.length
       have n2:its'.size = es.length:=by simpa using k2.length
       have he:∀ j (j1:j < its.size) (j2:j < its'.size),EqAt A.in1 s its[j] its'[j] (pairD ds es j):=fun j j1 j2=>by
        have q:=jQ ds es A.in1 s its.toList its'.toList h2 k2 (by show A.units+1+_ < _;unfold dep at hu;lia) j (by simpa using j1) (by simpa using j2);simpa using q
       refine EqAt.of_refs hl ?_;by_cases hsz:its.size = its'.size
       . rw [<- qj (by lia:ds.length = es.length),<- n1];exact RcAt.lists h1 k1 hsz (by lia) he
       . rw [tQ (by lia:ds.length≠es.length)]
         exact RcAt.lists_lengths h1 k1 (by simpa using hsz) (by lia)
   | fn _ _=>unfold RdV at rb;exact rb.elim
 | .tup ds,b,A,s,u,v,ra,rb,hu=>by
   have ra':=ra;unfold RdV at ra;obtain ⟨l,its,rfl,h1,h2⟩:=ra
   cases b with
   | non=>unfold RdV at rb;subst rb;unfold eqD;exact EqAt.tuple_none h1 (by lia)
   | bl b=>unfold RdV at rb;subst rb;unfold eqD;exact EqAt.tuple_bool b h1 (by lia)
   | int b=>unfold RdV at rb;obtain ⟨t,rfl⟩:=rb;unfold eqD;exact EqAt.tuple_int b t h1 (by lia)
   | str b=>unfold RdV at rb;obtain ⟨t,rfl⟩:=rb;unfold eqD;exact EqAt.tuple_str b t h1 (by lia)
   | lst es=>unfold RdV at rb;obtain ⟨l',its',rfl,k1,k2⟩:=rb;unfold eqD;exact EqAt.tuple_list h1 k1 (by lia)
   | tup es =>
     have rb':=rb;unfold RdV at rb;obtain ⟨l',its',rfl,k1,k2⟩:=rb;by_cases hl:l = l'
     . subst hl;have e:=RdV.inj _ _ _ ra' rb';cases e;have hd:dep (.tup ds) < 100000:=by rw [xE] at hu;have:cLine = 9900:=rfl;lia
       rw [kC _ hd];exact Ff _
     . unfold eqD;have n1:its.size = ds.length:=by simpa using h2.length
       have n2:its'.size = es.length:=by simpa using k2.length
       have he:∀ j (j1:j < its.size) (j2:j < its'.size),EqAt A.in1 s its[j] its'[j] (pairD ds es j):=fun j j1 j2=>by
        have q:=jQ ds es A.in1 s its.toList its'.toList h2 k2 (by show A.units+1+_ < _;unfold dep at hu;lia) j (by simpa using j1) (by simpa using j2);simpa using q
       refine EqAt.of_refs hl ?_;rw [<- nH,<- n1,<- n2]
       exact RcAt.tuples h1 k1 (by lia) he
   | fn _ _=>unfold RdV at rb;exact rb.elim
 | .fn _ _,b,A,s,u,v,ra,rb,hu=>by unfold RdV at ra;exact ra.elim
theorem jQ:∀ (ds es:List D) (A:ba) (s:ai) (us vs:List af),RdL s.heap ds us->RdL s.heap es vs->A.units+min (cN ds) (cN es) < cLine->∀ j (h1:j < us.length) (h2:j < vs.length),EqAt A s us[j] vs[j] (pairD ds es j)
 | [],_,_,_,us,_,ra,_,_,j,h1,_=>by unfold RdL at ra;subst ra;exact absurd h1 (HZ _)
 | _::_,[],_,_,_,vs,_,rb,_,j,_,h2=>by unfold RdL at rb;subst rb;exact absurd h2 (HZ _)
 | d::ds,e::es,A,s,us,vs,ra,rb,hu,j,h1,h2=>by
   unfold RdL at ra rb;obtain ⟨w,ws,rfl,a1,a2⟩:=ra;obtain ⟨w',ws',rfl,b1,b2⟩:=rb;unfold cN at hu
   cases j with
   | zero=>exact tR d e A s w w' a1 b1 (dt (fO (mm1 _ _ _ _) _) hu)
   | succ j =>
     have q:=jQ ds es A s ws ws' a2 b2 (dt (fO (mm2 _ _ _ _) _) hu) j (by simpa using h1) (by simpa using h2);simpa [pairD] using q
end
theorem yT (h:i.natAbs < 2 ^ 200):rW i<=2 ^ 20:=by
 unfold rW;split
 . exact cZ _
 . rename_i h0;have:i.natAbs.log2 < 200:=(AM (by simpa using h0)).mpr h;have:(200:Nat)<=2 ^ 20:=by decide
   lia
theorem GQ (h:rD i j = true):IntMulOk i j:=by
 unfold rD at h;simp only [cw,aa,decide_eq_true_eq] at h;rcases h with (h | h) | h
 . exact .of_left (intBits_le_64 h.1 h.2)
 . exact .of_right (intBits_le_64 h.1 h.2)
 . exact .of_bits (yT h.1) (yT h.2)
theorem GC:OpR X (binaryOp .Mult) (rI IntMulOk fun i j=>.int (i * j)):=opI fun _ _ _ _ _ _ _ hc q=>PyProof.Rows.mul_int q hc
theorem Dm:OpR X (binaryOp .FloorDiv) (rI (fun _ j=>0 < j/\j < 1000000000000000000000000000000000000000000000000000000000000) fun i j=>.int (i / j)):=opI fun i j _ _ _ _ _ hc q=>by
 have h1:(0:Int) < j:=hc.1;have h2:j < 1000000000000000000000000000000000000000000000000000000000000:=hc.2;refine PyProof.Rows.floordiv_int (by lia) (by rw [Int.fdiv_eq_ediv_of_nonneg i (by lia)];exact q) (.inl (PyProof.noPylong_of_log2 ?_));exact Nat.lt_trans ((AM (k:=200) (by lia)).mpr (aS (show j.natAbs < 1000000000000000000000000000000000000000000000000000000000000 by lia) (by decide +kernel))) (by decide)
section
variable {X:Cx}
theorem JR (hu:X.A.units+200 < cLine):OpR X (compareOp .Eq) (fun x y H Q=>∃ F a b,dD X.K H F a x/\dD X.K H F b y/\gH a b = true/\Q (.bl (eqD a b)) H):=by
 intro pins s σ H x y v u Q I rx ry h;obtain ⟨F,a,b,ha,hb,hk,q⟩:=h;unfold gH at hk;rw [aa,aa] at hk;obtain ⟨⟨hk,hd⟩,hm⟩:=hk;replace hd:=of_decide_eq_true hd;replace hm:=of_decide_eq_true hm;have ra:=fw I ha rx (by lia);have rb:=fw I hb ry (by lia);have fin:∀ k:Bool,k = eqD a b->EP X pins σ Q (.bool k) s:=fun k e=>⟨.bl k,H,I,rfl,by rw [e];exact q⟩
 cases a<;>cases b<;>first
  | (exact absurd (show false = true from hk) aq)
  | skip
 . unfold RdV at ra rb;subst ra;subst rb;exact RcAt.bool_bool _ _ _ _ _ _ (fin _ (by unfold eqD;rfl))
 . unfold RdV at ra rb;obtain ⟨t,rfl⟩:=ra;obtain ⟨t',rfl⟩:=rb;exact RcAt.int_int _ _ _ _ _ _ _ _ (fin _ (by unfold eqD;rfl))
 . unfold RdV at ra rb;obtain ⟨t,rfl⟩:=ra;obtain ⟨t',rfl⟩:=rb;exact RcAt.str_str _ _ _ _ _ _ _ _ (fin _ (by unfold eqD;rfl))
 . rename_i ds es;unfold RdV at ra rb;obtain ⟨l,its,rfl,h1,h2⟩:=ra;obtain ⟨l',its',rfl,k1,k2⟩:=rb;have n1:its.size = ds.length:=by simpa using h2.length
   have n2:its'.size = es.length:=by simpa using k2.length
   have he:∀ j (j1:j < its.size) (j2:j < its'.size),EqAt X.A.in1 s its[j] its'[j] (pairD ds es j):=fun j j1 j2=>by
    have q:=jQ ds es X.A.in1 s its.toList its'.toList h2 k2 (by show X.A.units+1+_ < _;unfold dep at hd;lia) j (by simpa using j1) (by simpa using j2);simpa using q
   by_cases hsz:its.size = its'.size
   . refine eq_listAt h1 k1 hsz (by lia) he (fin _ ?_);unfold eqD;rw [n1];exact qj (by lia)
   . refine eq_list_lengthsAt h1 k1 (by simpa using hsz) (by lia) (fin _ ?_);unfold eqD;exact (tQ (by lia)).symm
 . rename_i ds es;unfold RdV at ra rb;obtain ⟨l,its,rfl,h1,h2⟩:=ra;obtain ⟨l',its',rfl,k1,k2⟩:=rb;have n1:its.size = ds.length:=by simpa using h2.length
   have n2:its'.size = es.length:=by simpa using k2.length
   have he:∀ j (j1:j < its.size) (j2:j < its'.size),EqAt X.A.in1 s its[j] its'[j] (pairD ds es j):=fun j j1 j2=>by
    have q:=jQ ds es X.A.in1 s its.toList its'.toList h2 k2 (by show X.A.units+1+_ < _;unfold dep at hd;lia) j (by simpa using j1) (by simpa using j2);simpa using q
   refine eq_tupleAt h1 k1 (by lia) he (fin _ ?_);unfold eqD;rw [n1,n2];exact nH ds es
theorem JN (hu:X.A.units+200 < cLine):OpR X (compareOp .NotEq) (fun x y H Q=>∃ F a b,dD X.K H F a x/\dD X.K H F b y/\gH a b = true/\Q (.bl (!eqD a b)) H):=by
 intro pins s σ H x y v u Q I rx ry h;obtain ⟨F,a,b,ha,hb,hk,q⟩:=h;unfold gH at hk;rw [aa,aa] at hk;obtain ⟨⟨hk,hd⟩,hm⟩:=hk;replace hd:=of_decide_eq_true hd;replace hm:=of_decide_eq_true hm;have ra:=fw I ha rx (by lia);have rb:=fw I hb ry (by lia);have fin:∀ k:Bool,k = (!eqD a b)->EP X pins σ Q (.bool k) s:=fun k e=>⟨.bl k,H,I,rfl,by rw [e];exact q⟩
 cases a<;>cases b<;>first
  | (exact absurd (show false = true from hk) aq)
  | skip
 . unfold RdV at ra rb;subst ra;subst rb;exact RcNeAt.bool_bool _ _ _ _ _ _ (fin _ (by unfold eqD;rfl))
 . unfold RdV at ra rb;obtain ⟨t,rfl⟩:=ra;obtain ⟨t',rfl⟩:=rb;exact RcNeAt.int_int _ _ _ _ _ _ _ _ (fin _ (by unfold eqD;rfl))
 . unfold RdV at ra rb;obtain ⟨t,rfl⟩:=ra;obtain ⟨t',rfl⟩:=rb;exact RcNeAt.str_str _ _ _ _ _ _ _ _ (fin _ (by unfold eqD;rfl))
 . rename_i ds es;unfold RdV at ra rb;obtain ⟨l,its,rfl,h1,h2⟩:=ra;obtain ⟨l',its',rfl,k1,k2⟩:=rb;have n1:its.size = ds.length:=by simpa using h2.length
   have n2:its'.size = es.length:=by simpa using k2.length
   have he:∀ j (j1:j < its.size) (j2:j < its'.size),EqAt X.A.in1 s its[j] its'[j] (pairD ds es j):=fun j j1 j2=>by
    have q:=jQ ds es X.A.in1 s its.toList its'.toList h2 k2 (by show X.A.units+1+_ < _;unfold dep at hd;lia) j (by simpa using j1) (by simpa using j2);simpa using q
   by_cases hsz:its.size = its'.size
   . refine RcNeAt.lists h1 k1 hsz (by lia) he _ _ _ _ (fin _ ?_);unfold eqD;rw [n1,qj (by lia)]
   . refine RcNeAt.lists_lengths h1 k1 (by simpa using hsz) (by lia) _ _ _ _ (fin _ ?_);unfold eqD;rw [tQ (by lia)];rfl
 . rename_i ds es;unfold RdV at ra rb;obtain ⟨l,its,rfl,h1,h2⟩:=ra;obtain ⟨l',its',rfl,k1,k2⟩:=rb;have n1:its.size = ds.length:=by simpa using h2.length
   have n2:its'.size = es.length:=by simpa using k2.length
   have he:∀ j (j1:j < its.size) (j2:j < its'.size),EqAt X.A.in1 s its[j] its'[j] (pairD ds es j):=fun j j1 j2=>by
    have q:=jQ ds es X.A.in1 s its.toList its'.toList h2 k2 (by show X.A.units+1+_ < _;unfold dep at hd;lia) j (by simpa using j1) (by simpa using j2);simpa using q
   refine RcNeAt.tuples h1 k1 (by lia) he _ _ _ _ (fin _ ?_);unfold eqD;rw [n1,n2,nH ds es]
open Classical in
noncomputable def isEq (h:bJ) (a:D) (u:af):Bool:=if ∃ d,RdV h d u/\eqD d a = true then true else false
theorem yD (r:RdV h d u):isEq h a u = eqD d a:=by
 unfold isEq
 cases e:eqD d a with
 | true=>rw [if_pos ⟨d,r,e⟩]
 | false =>
   rw [if_neg];rintro ⟨d',r',e'⟩;rw [RdV.inj d d' u r r',e'] at e;cases e
theorem kG:∀ {ds:List D} {us:List af},RdL h ds us->us.any (isEq h a) = ds.any fun d=>eqD d a
 | [],us,r=>by unfold RdL at r;subst r;rfl
 | d::ds,us,r=>by
   unfold RdL at r;obtain ⟨w,ws,rfl,h1,h2⟩:=r;rw [jA,jA,yD h1,kG h2]
theorem kz (rv:RdV s.heap a v) (hu:A.units+dep a < cLine):∀ {ds:List D} {us:List af},RdL s.heap ds us->∀ u∈us,EqAt A s u v (isEq s.heap a u)
 | [],us,r=>fun u hm=>by unfold RdL at r;subst r;cases hm
 | d::ds,us,r=>fun u hm=>by
   unfold RdL at r;obtain ⟨w,ws,rfl,h1,h2⟩:=r;rcases aC.mp hm with rfl | hm
   . rw [yD h1];exact tR d a A s u v h1 rv (by lia)
   . exact kz rv hu h2 u hm
theorem JQ (hu:X.A.units+200 < cLine):OpR X (compareOp .In) (fun x y H Q=>∃ F a ds,dD X.K H F a x/\(dD X.K H F (.lst ds) y\/dD X.K H F (.tup ds) y)/\(dep a<=150/\cN ds < 99999)/\Q (.bl (ds.any fun d=>eqD d a)) H):=by
 intro pins s σ H x y v u Q I rx ry h;obtain ⟨F,a,ds,ha,hb,⟨hd,hm⟩,q⟩:=h;have ra:=fw I ha rx (by lia);have fin:∀ k:Bool,k = (ds.any fun d=>eqD d a)->EP X pins σ Q (.bool k) s:=fun k e=>⟨.bl k,H,I,rfl,by rw [e];exact q⟩;rcases hb with hb | hb
 . have rb:=fw I hb ry (by unfold dep;lia);unfold RdV at rb;obtain ⟨l',its',rfl,k1,k2⟩:=rb;refine in_listAt (isEq s.heap a) k1 (fun w hw=>kz ra (by show X.A.units+1+_ < _;lia) k2 w (by simpa using hw)) (fin _ ?_);rw [show its'.any (isEq s.heap a) = its'.toList.any (isEq s.heap a) by simp,kG k2]
 . have rb:=fw I hb ry (by unfold dep;lia);unfold RdV at rb;obtain ⟨l',its',rfl,k1,k2⟩:=rb;refine in_tupleAt (isEq s.heap a) k1 (fun w hw=>kz ra (by show X.A.units+1+_ < _;lia) k2 w (by simpa using hw)) (fin _ ?_);rw [show its'.any (isEq s.heap a) = its'.toList.any (isEq s.heap a) by simp,kG k2]
theorem Ai (hu:X.A.units+200 < cLine):OpR X (compareOp .NotIn) (fun x y H Q=>∃ F a ds,dD X.K H F a x/\(dD X.K H F (.lst ds) y\/dD X.K H F (.tup ds) y)/\(dep a<=150/\cN ds < 99999)/\Q (.bl (!ds.any fun d=>eqD d a)) H):=by
 intro pins s σ H x y v u Q I rx ry h;obtain ⟨F,a,ds,ha,hb,⟨hd,hm⟩,q⟩:=h;have ra:=fw I ha rx (by lia);have fin:∀ k:Bool,k = (!ds.any fun d=>eqD d a)->EP X pins σ Q (.bool k) s:=fun k e=>⟨.bl k,H,I,rfl,by rw [e];exact q⟩;rcases hb with hb | hb
 . have rb:=fw I hb ry (by unfold dep;lia);unfold RdV at rb;obtain ⟨l',its',rfl,k1,k2⟩:=rb;refine notIn_listAt (isEq s.heap a) k1 (fun w hw=>kz ra (by show X.A.units+1+_ < _;lia) k2 w (by simpa using hw)) (fin _ ?_);rw [show its'.any (isEq s.heap a) = its'.toList.any (isEq s.heap a) by simp,kG k2]
 . have rb:=fw I hb ry (by unfold dep;lia);unfold RdV at rb;obtain ⟨l',its',rfl,k1,k2⟩:=rb;refine notIn_tupleAt (isEq s.heap a) k1 (fun w hw=>kz ra (by show X.A.units+1+_ < _;lia) k2 w (by simpa using hw)) (fin _ ?_);rw [show its'.any (isEq s.heap a) = its'.toList.any (isEq s.heap a) by simp,kG k2]
theorem Fv {ns:List Bool}:∀ {xs:List V} {us:List af},xs = ns.map V.bl->Vals xs us->∀ i v,us[i]? = some v->v = kn (ns.getD i false):=by
 induction ns with
 | nil=>intro xs us e r i v h;subst e;cases r;simp at h
 | cons n ns ih =>
   intro xs us e r i v h;subst e
   cases r with
   | cons r1 r2 =>
     cases i with
     | zero=>simp at h;subst h;have e:_ = kn n:=r1;simpa using e
     | succ i=>simpa using ih rfl r2 i v (by simpa using h)
theorem wF (bs:List Bool):((bC bs.length).any fun i=>bs.getD i false) = bs.any id:=by
 rw [dF,kf,kf];constructor
 . rintro ⟨i,hi,e⟩;have hi':=lB.mp hi;refine ⟨bs[i],ke hi',?_⟩;simpa [lV,az hi'] using e
 . rintro ⟨b,hb,e⟩;obtain ⟨i,hi,rfl⟩:=List.getElem_of_mem hb;exact ⟨i,lB.mpr hi,by simpa [lV,az hi] using e⟩
theorem AH (hc:X.calm = true):cU X (.builtin "any") (fun xs H Q=>∃ (p:av) (ns:List Bool),xs = [.ref p]/\SqL X.K H p (ns.map V.bl)/\Q (.bl (ns.any id)) H):=by
 intro pins s σ H xs us Q I r h;obtain ⟨p,ns,rfl,hq,q⟩:=h;obtain ⟨u,rfl,rx⟩:=vals1 r;cases rx;obtain ⟨its,rv,pl,hz⟩:=I.list hq;have hlt:p < s.heap.objs.size:=by obtain ⟨o,e,_⟩:=pl.isList;exact aA e
 refine call_any_walk (qM pl.isList ?_)
 refine ⟨s.heap.objs.size,[s.heap.objs.size,p],[s.heap.objs.size],its.toArray.size,_,_,fun i=>ns.getD i false,rfl,Walks.list (A:=X.A.in1) (I.ok.hd hc) s.heap.objs.size p (aJ hlt) its.toArray,
  ⟨⟨_,aF _ rfl,rfl,rfl⟩,?_⟩,fun i v s' Q' E' hP hQ=>?_,fun h' tk hk=>?_⟩
 . obtain ⟨o,e,r⟩:=pl.isList;exact ⟨o,ah _ e,r⟩
 . rw [Fv rfl rv i v (by simpa using hP)];exact fE hQ
 . have e:its.toArray.size = ns.length:=by rw [aD,<- rv.length,ao]
   rw [e,wF];exact ⟨.bl (ns.any id),H,I.kept (h':=h') (t':=tk) (fun b o e=>hk b o (by simp;exact aJ (aA e)) (ah _ e)),rfl,q⟩
theorem Ex {prog:aM} {w:bj} {A:ba} {E:af->ai->Prop} {s:ai} {t b:av} {ws:List af} {Q:af->ai->Prop} (ht:Bb s.heap t ([]:List af).toArray) (hb:Bb s.heap b ws.toArray) (h:Q (.ref b) s):wpAny (model prog w) A (binaryOp .Add (.ref t) (.ref b)) Q E s:=by
 obtain ⟨⟨cls,dd,data,sl⟩,ho,hc,n,hd⟩:=id ht;obtain ⟨⟨cls2,dd2,data2,sl2⟩,ho2,hc2,n2,hd2⟩:=id hb;simp only at hc hd hc2 hd2;subst hc hd hc2 hd2;exact EO ⟨_,ho,rfl⟩ ⟨_,ho2,rfl⟩ ui AJ PySem.F.slot_tuple_add PySem.F.entry_tuple_add (PySem.F.args_tuple_add_2 _ _) (tuple_addW0 t b _ ws.toArray n n2 dd dd2 sl sl2 rfl) ⟨ho,ho2,h⟩
theorem GG:OpR X (binaryOp .Add) (fun x y H Q=>∃ a b ys,x = .ref a/\y = .ref b/\SqT X.K H a []/\SqT X.K H b ys/\Q (.ref b) H):=by
 intro pins s σ H x y v u Q I rx ry h;obtain ⟨a,b,ys,rfl,rfl,ha,hb,q⟩:=h;cases rx;cases ry;obtain ⟨its,r1,p1,_⟩:=I.tuple ha;obtain ⟨its2,r2,p2,_⟩:=I.tuple hb;cases r1;exact Ex p1 p2 ⟨.ref b,H,I,rfl,q⟩
noncomputable def tyName:Blt->Option String
 | .isBool=>some "bool"
 | _=>none
theorem Kv (I:Inv X pins σ H s) (h:dD X.K H F (.lst ds) v) (r:RelV v u):∃ l its,u = .ref l/\s.heap.IsList l its:=by
 rcases h with h | ⟨a,xs,_,_,rfl,h1,_⟩
 . unfold Rel at h;obtain ⟨a,xs,rfl,h1,_⟩:=h;obtain ⟨its,_,p,_⟩:=I.list h1.sq;exact ⟨a,_,r,p.isList⟩
 . obtain ⟨its,_,p,_⟩:=I.list (.inl (.inl h1));exact ⟨a,_,r,p.isList⟩
theorem Ku (I:Inv X pins σ H s) (h:dD X.K H F (.tup ds) v) (r:RelV v u):∃ l its,u = .ref l/\s.heap.IsTuple l its:=by
 rcases h with h | ⟨a,xs,_,e,_⟩
 . unfold Rel at h;obtain ⟨a,xs,rfl,h1,_⟩:=h;obtain ⟨its,_,p,_⟩:=I.tuple h1;exact ⟨a,_,r,p⟩
 . cases e
theorem Ez (hT:tyName f = some T):cU X (.builtin "isinstance") (fun xs H Q=>∃ F d x b,dD X.K H F d x/\xs = [x,.ty T]/\kF f [d] = some (.bl b)/\Q (.bl b) H):=by
 intro pins s σ H xs us Q I r h;obtain ⟨F,d,x,b,hr,rfl,hb,q⟩:=h;obtain ⟨u,w',rfl,ru,rw'⟩:=vals2 r;cases (show w' = Value.type T from rw');have fin:∀ tk,EP X pins σ Q (.bool b) { s with toks:=tk }:=fun tk=>⟨.bl b,H,I.tok tk,rfl,q⟩
 cases d with
 | non=>have rd:=fw I hr ru (by unfold dep;lia);unfold RdV at rd;subst rd;cases f<;>simp [tyName] at hT<;>subst hT<;>simp [kF,ia] at hb<;>subst hb<;>exact PySem.W.kia_one PySem.W.kitx_none I.kIn mU rfl (fun z=>nomatch z) fin
 | bl y=>have rd:=fw I hr ru (by unfold dep;lia);unfold RdV at rd;subst rd;cases f<;>simp [tyName] at hT<;>subst hT<;>simp [kF,ia] at hb<;>subst hb<;>exact PySem.W.kia_one PySem.W.kitx_bool I.kIn mU rfl (fun z=>nomatch z) fin
 | int y=>have rd:=fw I hr ru (by unfold dep;lia);unfold RdV at rd;obtain ⟨t,rfl⟩:=rd;cases f<;>simp [tyName] at hT<;>subst hT<;>simp [kF,ia] at hb<;>subst hb<;>exact PySem.W.kia_one PySem.W.kitx_int I.kIn mU rfl (fun z=>nomatch z) fin
 | str y=>have rd:=fw I hr ru (by unfold dep;lia);unfold RdV at rd;obtain ⟨t,rfl⟩:=rd;cases f<;>simp [tyName] at hT<;>subst hT<;>simp [kF,ia] at hb<;>subst hb<;>exact PySem.W.kia_one PySem.W.kitx_str I.kIn mU rfl (fun z=>nomatch z) fin
 | lst y =>
   obtain ⟨l,its,rfl,⟨o,h1,h2,_⟩⟩:=Kv I hr ru
   cases f<;>simp [tyName] at hT<;>subst hT<;>simp [kF,ia] at hb<;>subst hb<;>exact PySem.W.kia_one PySem.W.kitx_list I.kIn ⟨o,h1,h2⟩ rfl (fun z=>nomatch z) fin
 | tup y =>
   obtain ⟨l,its,rfl,⟨o,h1,h2,_⟩⟩:=Ku I hr ru
   cases f<;>simp [tyName] at hT<;>subst hT<;>simp [kF,ia] at hb<;>subst hb<;>exact PySem.W.kia_one PySem.W.kitx_tuple I.kIn ⟨o,h1,h2⟩ rfl (fun z=>nomatch z) fin
 | fn _ _=>cases f<;>simp [tyName] at hT<;>simp [kF,ia] at hb
noncomputable def Its (x:Str):L2.It:=⟨fun i _=>i < x.cps.size,fun i H v H'=>H' = H/\∃ c,x.cps[i]? = some c/\v = .str ⟨#[c]⟩,fun i _=>i = x.cps.size⟩
theorem pG {P:aM} {w:bj} {K:PySem.W.Frag} {tg:aE} {it:av} {n:Nat} {PV:Nat->af->Prop} {St:Nat->bJ->Prop} {J:L2.It} {ty:String}
 (W:∀ A:ba,A.handled = none->Walks P w A it [it] [it] n PV St) (hst:∀ i h,St i h->∃ (o:Obj) (vs:Array af),h.get? it = some o/\o.cls = .type ty/\o.data = .fields vs)
 (hn:["enumerate","zip","dict_itemiterator","dict_reverseitemiterator","odict_iterator","itertools.zip_longest","itertools.pairwise"].contains ty = false)
 (go:∀ i H,J.go i H->i < n) (stop:∀ i H,J.stop i H->i = n) (yld:∀ i v H,PV i v->∃ x,RelV x v/\J.yld i H x H)
 (self:∀ (A:ba) (i:Nat) (s:ai) (Q:af->ai->Prop) (E:af->ai->Prop),St i s.heap->Q (.ref it) s->wpAny (model P w) A (pyIter (.ref it)) Q E s) :
 Turn P w K tg J [it] it St where
 mem:=by simp
 obj:=fun i h st b hb=>by
  have e:b = it:=by simpa using hb
  subst e;obtain ⟨o,vs,e,c,d⟩:=hst i h st;exact ⟨o,e,fun v z=>by rw [d] at z;cases z⟩
 keep:=fun i h h' st k=>(W { } rfl).frame i h h' st k
 item:=by
  intro X hP hw hK hc i pins s σ H E I hf st hg;subst hP hw hK;obtain ⟨f0,f1,f2,f3,f4,f5⟩:=hf it (by simp);refine (W X.A (I.ok.hd hc)).item i s _ _ (go i H hg) st fun v h' tk hv st' kk=>?_;have I1:Inv X pins σ H { s with heap:=h',toks:=tk }:=I.turned (fun b o hb e=>kk b o (by simpa using hb) e) f0 f1 f3 f4 f5;obtain ⟨o,vs,e,c,d⟩:=hst _ _ st';obtain ⟨x,r,y⟩:=yld i v H hv;exact ⟨v,rfl,yF (s:={ s with heap:=h',toks:=tk }) e c d hn ⟨x,H,I1,r,y,st',fun b hb=>(hf b hb).1⟩⟩
 done:=by
  intro X hP hw hK hc i pins s σ H E I hf st hg;subst hP hw hK;obtain ⟨f0,f1,f2,f3,f4,f5⟩:=hf it (by simp);have e:=stop i H hg;subst e;exact (W X.A (I.ok.hd hc)).done s _ _ st fun h' tk kk=>⟨rfl,I.turned (fun b o hb e=>kk b o (by simpa using hb) e) f0 f1 f3 f4 f5⟩
 self:=self
theorem BU {P:aM} {w:bj} {K:PySem.W.Frag} {tg:aE} (it:av) (x:Str) (t:Tok):Turn P w K tg (Its x) [it] it (fun i h=>h.IsStrIter it (strIterType x) x t i):=by
 unfold strIterType;split
 . exact pG (ty:="str_ascii_iterator") (fun A hA=>Walks.strAscii hA it x t) (fun i h ⟨o,e,c,d⟩=>⟨o,_,e,c,d⟩) (by decide) (fun i H z=>z) (fun i H z=>z) (fun i v H ⟨c,u,h1,h2⟩=>⟨.str ⟨#[c]⟩,⟨u,h2⟩,rfl,c,h1,rfl⟩) fun _ _ _ _ _ st h=>wpAny_pyIter_striter_ascii st h
 . exact pG (ty:="str_iterator") (fun A hA=>Walks.strWide hA it x t) (fun i h ⟨o,e,c,d⟩=>⟨o,_,e,c,d⟩) (by decide) (fun i H z=>z) (fun i H z=>z) (fun i v H ⟨c,u,h1,h2⟩=>⟨.str ⟨#[c]⟩,⟨u,h2⟩,rfl,c,h1,rfl⟩) fun _ _ _ _ _ st h=>wpAny_pyIter_striter_wide st h
end
end PP
end
section
namespace PP
open PySem L2 PyProof.Rows PySem.SeqAt PySem.Calls
section
variable {prog:aM} {w:bj} {A:ba} {R:xB->ai->Prop} {I:av} {fp wr:List av} {n:Nat} {P:Nat->af->Prop} {St:Nat->bJ->Prop}
end
variable {X:Cx} [Tbs]
end PP
end
section
namespace PP
open PySem L2 PySem.SeqAt PyProof.Rows PySem.W
open AutoSeq1 (wpAny_loadPart')
open MeetsSeq MeetsSeq2 MeetsSeq3 SeqRoads2
variable [Tbs]
noncomputable def EK (A:ba) (s:ai) (u v:af) (b:Bool):Prop:=∀ (prog:aM) (w:bj) (E:af->ai->Prop) (Q:af->ai->Prop),Q (.bool b) s->wpAny (model prog w) A (richCompare .Lt u v) Q E s
noncomputable def vM (A:ba) (s:ai) (last:Bool):List (af × af)->Bool->Prop
 | [],b=>b = last
 | (p,q)::r,b=>∃ e,EqAt A s p q e/\if e = true then vM A s last r b else EK A s p q b
theorem wq (l m:av) (xs ys:Array af) (n n2:Nat) (dd dd2:Option av) (sl sl2:Array (Option af)) (b:Bool) :
 Meets (fX.«tuple.__lt__» ⟨[.ref l,.ref m],[]⟩)
  (fun A R s=>s.heap.get? l = some ⟨.type "tuple",dd,.seq xs n,sl⟩/\s.heap.get? m = some ⟨.type "tuple",dd2,.seq ys n2,sl2⟩ /\
    vM A.in1 s (decide (xs.size < ys.size)) (xs.toList.zip ys.toList) b/\R (.ok (.ret (.bool b))) s) :=
 .of_wp fun prog w A R s h=>by
  obtain ⟨h0,g0,d0,t0,o0⟩:=s;obtain ⟨hx,hy,hlex,hR⟩:=h;have sub:=AutoSeq1.sub_tuple_tuple
  wp_walk using lY hx,lY hy,wpAny_forIn_list _ (fun rest st s'=>st.1 = none/\s' = ⟨h0,g0,d0,t0,o0⟩/\vM A.in1 ⟨h0,g0,d0,t0,o0⟩ (decide (xs.size < ys.size)) rest b) _
  case turn =>
   rintro ⟨y,x⟩ rest st s' ⟨hst,rfl,e,he,hr⟩;refine ab (he prog w _ _ ?_)
   cases e with
   | true =>
     rw [if_pos rfl] at hr
     wp_walk
     exact ⟨rfl,rfl,hr⟩
   | false =>
     rw [if_neg aq] at hr;have hr':∀ {Q:af->ai->Prop} {E:af->ai->Prop},Q (.bool b) ⟨h0,g0,d0,t0,o0⟩->wpAny (model prog w) A.in1 (richCompare .Lt y x) Q E ⟨h0,g0,d0,t0,o0⟩:=fun {Q E} h=>hr prog w E Q h
     wp_walk using hr'
     exact ⟨_,rfl,hR⟩
  case fin =>
   rintro ⟨b1,b2⟩ s' ⟨hst,rfl,hl⟩;simp only at hst;subst hst;have hl:b = decide (xs.size < ys.size):=hl
   wp_walk
   refine ⟨_,rfl,?_⟩;have:Builtin.Tuple.tupleCompareSizes .Lt xs.size ys.size = .bool b:=by rw [hl];rfl
   rw [this];exact hR
  case h=>exact ⟨rfl,rfl,hlex⟩
theorem EK.tuples (hx:s.heap.IsTuple l xs) (hy:s.heap.IsTuple m ys) (hu:A.units < cLine) (h:vM A.in1 s (decide (xs.size < ys.size)) (xs.toList.zip ys.toList) b):EK A s (.ref l) (.ref m) b:=by
 intro prog w E Q q;obtain ⟨⟨c1,d1,t1,s1⟩,e1,k1,n1,f1⟩:=hx;obtain ⟨⟨c2,d2,t2,s2⟩,e2,k2,n2,f2⟩:=hy;have k1:c1 = _:=k1;have f1:t1 = _:=f1;have k2:c2 = _:=k2;have f2:t2 = _:=f2;subst k1 f1 k2 f2;have nn:kn b≠xA:=fun z=>nomatch z;exact richCompare_meets_room (op:=.Lt) ⟨_,e1,rfl⟩ ⟨_,e2,rfl⟩ F.slot_tuple_lt F.entry_tuple_lt (F.args_tuple_lt_2 _ _) (wq l m xs ys n1 n2 d1 d2 s1 s2 b) ⟨e1,e2,h,(show kn b≠xA/\Q (.bool b) s from ⟨nn,q⟩)⟩ hu
mutual
theorem wY:∀ (a b:D) (A:ba) (s:ai) (u v:af) (k:Bool),RdV s.heap a u->RdV s.heap b v->A.units+min (dep a) (dep b)+1 < cLine->ltD a b = some k->EK A s u v k
 | .int a,b,A,s,u,v,k,ra,rb,hu,h=>by
   cases b with
   | int b =>
     unfold ltD at h;cases h;unfold RdV at ra rb;obtain ⟨t,rfl⟩:=ra;obtain ⟨t',rfl⟩:=rb;intro prog w E Q q
     exact lt_int q
   | _=>unfold ltD at h;cases h
 | .str a,b,A,s,u,v,k,ra,rb,hu,h=>by
   cases b with
   | str b =>
     unfold ltD at h;cases h;unfold RdV at ra rb;obtain ⟨t,rfl⟩:=ra;obtain ⟨t',rfl⟩:=rb;intro prog w E Q q
     exact lt_str q
   | _=>unfold ltD at h;cases h
 | .tup a,b,A,s,u,v,k,ra,rb,hu,h=>by
   cases b with
   | tup b =>
     unfold ltD at h;unfold RdV at ra rb;obtain ⟨l,xs,rfl,h1,h2⟩:=ra;obtain ⟨m,ys,rfl,k1,k2⟩:=rb;have n1:xs.size = a.length:=by simpa using h2.length
     have n2:ys.size = b.length:=by simpa using k2.length
     refine EK.tuples h1 k1 (by omega) ?_;rw [n1,n2];unfold dep at hu
     exact vf a b A.in1 s xs.toList ys.toList k h2 k2 (by show A.units+1+_+1 < _;omega) h
   | _=>unfold ltD at h;cases h
 | .non,b,A,s,u,v,k,ra,rb,hu,h=>by cases b<;>(unfold ltD at h;cases h)
 | .bl x,b,A,s,u,v,k,ra,rb,hu,h=>by cases b<;>(unfold ltD at h;cases h)
 | .lst x,b,A,s,u,v,k,ra,rb,hu,h=>by cases b<;>(unfold ltD at h;cases h)
 | .fn x y,b,A,s,u,v,k,ra,rb,hu,h=>by cases b<;>(unfold ltD at h;cases h)
theorem vf:∀ (as bs:List D) (A:ba) (s:ai) (us vs:List af) (k:Bool),RdL s.heap as us->RdL s.heap bs vs->A.units+min (cN as) (cN bs)+1 < cLine->hW as bs = some k->vM A s (decide (as.length < bs.length)) (us.zip vs) k
 | [],[],A,s,us,vs,k,ra,rb,hu,h=>by
   unfold RdL at ra rb;subst ra;subst rb;unfold hW at h;cases h
   rfl
 | [],y::ys,A,s,us,vs,k,ra,rb,hu,h=>by
   unfold RdL at ra;subst ra;unfold hW at h;cases h;show true = decide _
   simp
 | x::xs,[],A,s,us,vs,k,ra,rb,hu,h=>by
   unfold RdL at rb;subst rb;unfold hW at h;cases h;rw [jc];show false = decide _
   simp
 | x::xs,y::ys,A,s,us,vs,k,ra,rb,hu,h=>by
   unfold RdL at ra rb;obtain ⟨u,us',rfl,ra1,ra2⟩:=ra;obtain ⟨v,vs',rfl,rb1,rb2⟩:=rb;unfold hW at h;unfold cN at hu;refine ⟨eqD x y,tR x y A s u v ra1 rb1 (dt (bc (fO (mm1 _ _ _ _) _) (Hz _ 1)) hu),?_⟩
   cases e:eqD x y with
   | true =>
     rw [e,if_pos rfl] at h;rw [if_pos rfl];have:=vf xs ys A s us' vs' k ra2 rb2 (dt (AN (fO (mm2 _ _ _ _) _) 1) hu) h;have e1:decide ((x::xs).length < (y::ys).length) = decide (xs.length < ys.length):=by simp
     rw [e1]
     exact this
   | false =>
     rw [e,if_neg aq] at h;rw [if_neg aq];exact wY x y A s u v k ra1 rb1 (dt (AN (fO (mm1 _ _ _ _) _) 1) hu) h
end
theorem JP (hu:X.A.units+200 < cLine):OpR X (compareOp .Lt) (fun x y H Q=>∃ F a b k,dD X.K H F a x/\dD X.K H F b y/\oC a b = some k/\Q (.bl k) H):=by
 intro pins s σ H x y v u Q I rx ry h;obtain ⟨F,a,b,k,ha,hb,e,q⟩:=h;unfold oC at e;split at e
 . exact wY a b X.A s v u k (fw I ha rx (by omega)) (fw I hb ry (by omega)) (by omega) e X.prog X.w X.xe _ ⟨.bl k,H,I,rfl,q⟩
 . cases e
theorem GF:OpR X (binaryOp .Add) (fun x y H Q=>∃ l b xs zs,x = .ref l/\y = .ref b/\LsB X.K H l xs/\LsB X.K H b zs/\xs.length+zs.length<=sizeLine/\∀ p,H p = none->Q (.ref p) (upd H p (.lst (xs++zs)))):=by
 intro pins s σ H x y v u Q I rx ry h;obtain ⟨l,b,xs,zs,rfl,rfl,h1,h2,hz,q⟩:=h;cases rx;cases ry;obtain ⟨i1,n1,r1,e1,z1⟩:=h1.obj I;obtain ⟨i2,n2,r2,e2,z2⟩:=h2.obj I;have l1:=r1.length;have l2:=r2.length;refine PySem.P.add_list e1 e2 ?_ (by simp only [aD];omega);rw [show i1.toArray++i2.toArray = (i1++i2).toArray by simp];exact ⟨.ref _,_,I.lnew (t':=s.toks) (r1.append r2) (by rw [aj];omega),rfl,q _ I.fresh⟩
end PP
end
section
namespace PP
open PySem PySem.W PyProof.Rows
noncomputable def inR {α:Type} (lt:Nat->Nat->Bool) (n:Nat):KasT α->Prop
 | .ret _=>True
 | .ask i j k=>i < n/\j < n/\inR lt n (k (lt i j))
theorem jt {α β:Type} {lt:Nat->Nat->Bool} {n:Nat} {f:α->KasT β}:∀ {t:KasT α},inR lt n t->inR lt n (f (ans lt t))->inR lt n (t.bind f)
 | .ret a,_,h=>h
 | .ask i j k,⟨h1,h2,h3⟩,h=>⟨h1,h2,jt h3 h⟩
theorem iH {α:Type} {lt:Nat->Nat->Bool} {n:Nat} {c:Prop} [Decidable c] {a b:KasT α} (h1:inR lt n a) (h2:inR lt n b):inR lt n (if c then a else b):=by
 by_cases h:c
 . rw [if_pos h];exact h1
 . rw [if_neg h];exact h2
noncomputable def All (p:Array Nat) (n:Nat):Prop:=0 < n/\∀ x∈p,x < n
theorem All.at {p:Array Nat} {n:Nat} (h:All p n) (k:Nat):p.getD k 0 < n:=by
 rw [getD_eq]
 cases e:p[k]? with
 | none=>exact h.1
 | some x=>exact h.2 x (Array.mem_of_getElem? e)
theorem All.perm {p q:Array Nat} {n:Nat} (h:All p n) (e:q.Perm p):All q n:=⟨h.1,fun x hx=>h.2 x (e.mem_iff.mp hx)⟩
section
variable {lt:Nat->Nat->Bool} {n:Nat}
theorem xt {p:Array Nat} (h:All p n):∀ f k,inR lt n (kas_asc p f k)
 | 0,k=>trivial
 | f+1,k=>⟨h.at _,h.at _,iH trivial (xt h f (k+1))⟩
theorem oX:∀ (f:Nat) (p:Array Nat) (k q:Nat),All p n->inR lt n (kas_desc f p k q)/\All (ans lt (kas_desc f p k q)).1 n
 | 0,p,k,q,h=>⟨trivial,h⟩
 | f+1,p,k,q,h=>by
   unfold kas_desc;have r1:=oX f (kas_rev p (k - (q+1)) k) (k+1) 0 (h.perm (eB _ _ _));have r2:=oX f p (k+1) 0 h;have r3:=oX f p (k+1) (q+1) h;refine ⟨⟨h.at _,h.at _,iH (iH r1.1 r2.1) ⟨h.at _,h.at _,iH trivial r3.1⟩⟩,?_⟩;rw [fq]
   cases lt (p.getD k 0) (p.getD (k - 1) 0) with
   | true =>
     rw [if_pos rfl];by_cases hq:q > 0
     . rw [if_pos hq];exact r1.2
     . rw [if_neg hq];exact r2.2
   | false =>
     rw [if_neg aq,fq]
     cases lt (p.getD (k - 1) 0) (p.getD k 0) with
     | true=>rw [if_pos rfl];exact h
     | false=>rw [if_neg aq];exact r3.2
theorem uD {p:Array Nat} (h:All p n) (a m:Nat):inR lt n (kas_tail3 a m p)/\All (ans lt (kas_tail3 a m p)).2 n:=by
 unfold kas_tail3;have h':=h.perm (eB p 0 a);refine ⟨jt (xt h' _ _) trivial,?_⟩;rw [dz,ij];exact h'
theorem oe {p:Array Nat} (h:All p n) (a m:Nat):inR lt n (kas_descPart a m p)/\All (ans lt (kas_descPart a m p)).2 n:=by
 unfold kas_descPart;obtain ⟨d1,d2⟩:=oX (lt:=lt) (m - (a+1)) p (a+1) 0 h;rw [dz];generalize hr:ans lt (kas_desc (m - (a+1)) p (a+1) 0) = r at d2;have t1:=uD (lt:=lt) (d2.perm (eB r.1 (r.2.1 - (r.2.2+1)) r.2.1)) r.2.1 m;have t2:=uD (lt:=lt) d2 r.2.1 m;refine ⟨jt d1 (by rw [hr];exact iH t1.1 t2.1),?_⟩;by_cases hq:r.2.2 > 0
 . rw [if_pos hq];exact t1.2
 . rw [if_neg hq];exact t2.2
theorem Et {p:Array Nat} (h:All p n) (m:Nat):inR lt n (kas_count m p)/\All (ans lt (kas_count m p)).2 n:=by
 unfold kas_count;rw [dz];have a1:=xt (lt:=lt) h (m - 1) 1;generalize hk:ans lt (kas_asc p (m - 1) 1) = k;have t1:=oe (lt:=lt) (h.perm (eB p 0 k)) k m;have t2:=oe (lt:=lt) h k m;refine ⟨jt a1 (by rw [hk];exact iH trivial (iH ⟨h.at _,h.at _,iH trivial t1.1⟩ t2.1)),?_⟩;by_cases e:(k == m) = true
 . rw [if_pos e];exact h
 . rw [if_neg e];by_cases h1:k > 1
   . rw [if_pos h1,fq]
     cases lt (p.getD 0 0) (p.getD (k - 1) 0) with
     | true=>rw [if_pos rfl];exact h
     | false=>rw [if_neg aq];exact t1.2
   . rw [if_neg h1];exact t2.2
theorem pU {p:Array Nat} (h:All p n) (k:Nat):∀ f l r,inR lt n (kas_place p k f l r)
 | 0,l,r=>trivial
 | f+1,l,r=>by
   unfold kas_place;exact iH trivial ⟨h.at _,h.at _,iH (pU h k f _ _) (pU h k f _ _)⟩
theorem EF:∀ (f:Nat) (p:Array Nat) (k:Nat),All p n->inR lt n (kas_bin f p k)
 | 0,p,k,h=>trivial
 | f+1,p,k,h=>by
   unfold kas_bin;exact jt (pU h k _ _ _) (EF f _ _ (h.perm (Hx _ _ _)))
theorem xR (hn:0 < n):inR lt n (kas_sort n):=by
 unfold kas_sort;have h:All (fG (bC n)) n:=⟨hn,fun x hx=>by simpa using hx⟩;obtain ⟨c1,c2⟩:=Et (lt:=lt) h n;exact jt c1 (iH (EF _ _ _ c2) trivial)
end
theorem yA {α:Type} {prog:aM} {w:bj} {A:ba} {κ:nV} {vs:List af} {lt:Nat->Nat->Bool} {n:Nat} {s:ai} {Q:α->ai->Prop}
 (ha:∀ i j,i < n->j < n->∀ C:Bool->ai->Prop,C (lt i j) s->kas_ask prog w A κ vs i j C s):∀ t:KasT α,inR lt n t->Q (ans lt t) s->t.kasWp (kas_ask prog w A κ vs) Q s
 | .ret a,_,q=>q
 | .ask i j k,⟨h1,h2,h3⟩,q=>ha i j h1 h2 _ (yA ha (k (lt i j)) h3 q)
noncomputable def fS (lt:Nat->Nat->Bool) (vs:List af):List af:=if vs.length < 2 then vs else (ans lt (kas_sort vs.length)).toList.map fun i=>vs.getD i cm
section
variable {prog:aM} {w:bj} {A:ba} {E:af->ai->Prop} {s:ai}
theorem mz {a:av} {vs:List af} {n:Nat} {lt:Nat->Nat->Bool} {κ:nV} {P:PySem.Fin->ai->Prop} (ho:s.heap.get? a = some (seqObj "list" vs.toArray n)) (h64:vs.length < 64)
 (hlen:(fS lt vs).length = vs.length)
 (hk:2<=vs.length->∀ h':bJ,(∀ b o,b≠a->s.heap.get? b = some o->h'.get? b = some o)->∀ C:nV->ai->Prop,C κ { s with heap:=h' }->wpAny (model prog w) A (keyKind' vs.toArray) C (fun _ _=>False) { s with heap:=h' })
 (ha:∀ h':bJ,(∀ b o,b≠a->s.heap.get? b = some o->h'.get? b = some o)->∀ i j,i < vs.length->j < vs.length->∀ C:Bool->ai->Prop,C (lt i j) { s with heap:=h' }->kas_ask prog w A κ vs i j C { s with heap:=h' })
 (q:P (.done (.ret .none)) { s with heap:=sortedHeap s.heap a vs (fS lt vs).toArray }):wpAny (model prog w) A (fX.«list.sort» ⟨[.ref a],[]⟩) P E s:=by
 have la:a < s.heap.objs.size:=aA ho;obtain ⟨e1,o1⟩:∃ e1,(s.heap.update a (bY fun _=>(#[]:Array af))).get? a = some (seqObj "list" #[] e1):=⟨_,vN ho fun _ => #[]⟩;have o3:(((s.heap.update a (bY fun _=>(#[]:Array af))).push (seqObj "tuple" vs.toArray 0)).push (seqObj "list" #[] 0)).get? a = some (seqObj "list" #[] e1):=ah _ (ah _ o1)
 have keep:∀ b o,b≠a->s.heap.get? b = some o->(((s.heap.update a (bY fun _=>(#[]:Array af))).push (seqObj "tuple" vs.toArray 0)).push (seqObj "list" #[] 0)).get? b = some o:=fun b o hb e =>
  ah _ (ah _ ((eI _ _ (Ne.symm hb)).trans e))
 have sz:(fS lt vs).toArray.size<=sizeLine:=by rw [aD,hlen,cj];lia
 rw [list_sort_plain];refine ab (listItems_at ho rfl (ab (kJ ho rfl ?_ (by rw [aD,cj];lia) (cZ _))));refine ab (Hw o1 rfl (ab (wpAny_newTuple ?_ (by show vs.length<=_;rw [cj];lia))));refine ab (AI (cE ?_) (cZ _));show wpAny (model prog w) A _ P E { s with heap:=((s.heap.update a (bY fun _=>(#[]:Array af))).push (seqObj "tuple" vs.toArray 0)).push (seqObj "list" #[] 0) };dsimp only;by_cases h2:vs.toArray.size < 2
 . have hv:vs.length < 2:=by simpa using h2
   have eo:fS lt vs = vs:=by unfold fS;rw [if_pos hv]
   rw [if_pos h2,if_pos h2];refine ab (aw ?_);rw [StateT.run_pure];refine ab (aw ?_);dsimp only;refine ab (Hw o3 rfl ?_)
   have em:(arrOf (SortSt.mk' general' (vs.toArray.zip vs.toArray) #[] 7 none)).map (·.2) = (fS lt vs).toArray:=by
    rw [eo];show (vs.toArray.zip vs.toArray).map (·.2) = vs.toArray;apply Array.ext
    . simp
    . intro i h1 h2;simp
   rw [em];refine ab (kJ o3 rfl ?_ (cZ _) (EY sz));simp only [bne_self_eq_false,aZ,if_false];exact aw q
 . have hv:¬ vs.length < 2:=by simpa using h2
   have eo:fS lt vs = (ans lt (kas_sort vs.length)).toList.map fun i=>vs.getD i cm:=by unfold fS;rw [if_neg hv]
   rw [if_neg h2,if_neg h2];refine ab (iJ (hk (by lia) _ keep (fun κ' s'=>κ' = κ/\s' = { s with heap:=((s.heap.update a (bY fun _=>(#[]:Array af))).push (seqObj "tuple" vs.toArray 0)).push (seqObj "list" #[] 0) }) ⟨rfl,rfl⟩) (fun κ' s0 hk=>?_) fun _ _ x=>x.elim);obtain ⟨rfl,rfl⟩:=hk
   refine ab (iJ (kat_run (Q:=fun st' s'=>s' = { s with heap:=((s.heap.update a (bY fun _=>(#[]:Array af))).push (seqObj "tuple" vs.toArray 0)).push (seqObj "list" #[] 0) }/\∃ p:Array Nat,arrOf st' = p.map (kas_item (vs.toArray.zip vs.toArray))/\failedOf st' = none/\p = ans lt (kas_sort vs.length))
    (G:=fun p s'=>s' = { s with heap:=((s.heap.update a (bY fun _=>(#[]:Array af))).push (seqObj "tuple" vs.toArray 0)).push (seqObj "list" #[] 0) }/\p = ans lt (kas_sort vs.length)) rfl (by lia) h64 (fun p st' s' a1 a2 a3 a4=>⟨a4.1,p,a2,a3,a4.2⟩)
    (yA (lt:=lt) (n:=vs.length) (fun i j h1 h2 C hc=>ha _ keep i j h1 h2 C hc) _ (xR (by lia)) ⟨rfl,rfl⟩)) ?_ fun _ _ e=>e)
   rintro ⟨⟨⟩,st'⟩ s' ⟨rfl,p,har,hf,rfl⟩;dsimp only;rw [kat_snds rfl har,<- eo];refine ab (Hw o3 rfl (ab (kJ o3 rfl ?_ (cZ _) (EY sz))));rw [hf];simp only [bne_self_eq_false,aZ,if_false];exact aw q
theorem zQ {κ:nV} (hl:s.heap.IsList l vs.toArray) (h64:vs.length < 64) (hlen:(fS lt vs).length = vs.length)
 (hk:2<=vs.length->∀ (A':ba) (h':bJ),A'.units<=A.units+2->(∀ b o,s.heap.get? b = some o->h'.get? b = some o)->∀ C:nV->ai->Prop,C κ { s with heap:=h' }->wpAny (model prog w) A' (keyKind' vs.toArray) C (fun _ _=>False) { s with heap:=h' })
 (ha:∀ (A':ba) (h':bJ),A'.units<=A.units+2->(∀ b o,s.heap.get? b = some o->h'.get? b = some o)->∀ i j,i < vs.length->j < vs.length->∀ C:Bool->ai->Prop,C (lt i j) { s with heap:=h' }->kas_ask prog w A' κ vs i j C { s with heap:=h' })
 (q:Q (.ref (s.heap.objs.size+1)) { s with heap:=sortedAll s.heap vs (fS lt vs).toArray }):wpAny (model prog w) A (call (.builtin "sorted") [.ref l]) Q E s:=by
 refine rV kind_sorted plain_sorted entry_sorted (args_sorted1 _) ?_;unfold fX.«sorted»;refine ab (m:=checkCount "sorted" 1 1 _) (aw ?_);refine ab (collect_list hl (ab (AI ?_ (by rw [cj];lia))) (by rw [cj];lia));have hs:((s.heap.push (seqObj "list" #[] 0)).update s.heap.objs.size (bY (·++vs.toArray))).objs.size = s.heap.objs.size+1:=by rw [Heap.size_update,size_push']
 have hL:(((s.heap.push (seqObj "list" #[] 0)).update s.heap.objs.size (bY (·++vs.toArray))).push (seqObj "list" vs.toArray 0)).get? (s.heap.objs.size+1) = some (seqObj "list" vs.toArray 0):=by
  rw [<- hs];exact aF _ rfl
 have keep:∀ b o,s.heap.get? b = some o->b≠s.heap.objs.size+1/\(((s.heap.push (seqObj "list" #[] 0)).update s.heap.objs.size (bY (·++vs.toArray))).push (seqObj "list" vs.toArray 0)).get? b = some o:=fun b o e=>by
  have hlt:b < s.heap.objs.size:=aA e;exact ⟨aJ (bK hlt),ah _ ((eI _ _ (fK hlt)).trans (ah _ e))⟩
 show wpAny _ _ _ _ _ { s with heap:=((s.heap.push (seqObj "list" #[] 0)).update s.heap.objs.size (bY (·++vs.toArray))).push (seqObj "list" vs.toArray 0) };rw [hs];refine ab (cE (bM slot_list_sort ⟨_,hL,rfl⟩ entry_list_sort ?body (args_list_sort _)))
 case body =>
  refine mz (lt:=lt) (κ:=κ) hL h64 hlen (fun h2 h' kp=>hk h2 _ h' ?_ fun b o e=>kp b o (keep b o e).1 (keep b o e).2) (fun h' kp=>ha _ h' ?_ fun b o e=>kp b o (keep b o e).1 (keep b o e).2) ?_
  . exact aB _
  . exact aB _
  . exact ⟨_,rfl,aw ⟨_,rfl,q⟩⟩
end
end PP
end
section
namespace PP
open PySem L2 PySem.SeqAt PyProof.Rows PySem.W
variable [Tbs]
section
variable {lt:Nat->Nat->Bool}
theorem kR:∀ (f:Nat) (p:Array Nat) (k q:Nat),(ans lt (kas_desc f p k q)).1.Perm p
 | 0,p,k,q=>cJ _
 | f+1,p,k,q=>by
   unfold kas_desc;rw [fq]
   cases lt (p.getD k 0) (p.getD (k - 1) 0) with
   | true =>
     rw [if_pos rfl];by_cases hq:q > 0
     . rw [if_pos hq];exact (kR f _ _ _).trans (eB _ _ _)
     . rw [if_neg hq];exact kR f _ _ _
   | false =>
     rw [if_neg aq,fq]
     cases lt (p.getD (k - 1) 0) (p.getD k 0) with
     | true=>rw [if_pos rfl];exact cJ _
     | false=>rw [if_neg aq];exact kR f _ _ _
theorem pK (a m:Nat) (p:Array Nat):(ans lt (kas_tail3 a m p)).2.Perm p:=by
 unfold kas_tail3;rw [dz,ij];exact eB _ _ _
theorem lz (a m:Nat) (p:Array Nat):(ans lt (kas_descPart a m p)).2.Perm p:=by
 unfold kas_descPart;rw [dz];have d:=kR (lt:=lt) (m - (a+1)) p (a+1) 0;generalize ans lt (kas_desc (m - (a+1)) p (a+1) 0) = r at d;by_cases hq:r.2.2 > 0
 . rw [if_pos hq];exact ((pK _ _ _).trans (eB _ _ _)).trans d
 . rw [if_neg hq];exact (pK _ _ _).trans d
theorem xh (m:Nat) (p:Array Nat):(ans lt (kas_count m p)).2.Perm p:=by
 unfold kas_count;rw [dz];generalize ans lt (kas_asc p (m - 1) 1) = k;by_cases e:(k == m) = true
 . rw [if_pos e];exact cJ _
 . rw [if_neg e];by_cases h1:k > 1
   . rw [if_pos h1,fq]
     cases lt (p.getD 0 0) (p.getD (k - 1) 0) with
     | true=>rw [if_pos rfl];exact cJ _
     | false=>rw [if_neg aq];exact (lz _ _ _).trans (eB _ _ _)
   . rw [if_neg h1];exact lz _ _ _
theorem vH:∀ (f:Nat) (p:Array Nat) (k:Nat),(ans lt (kas_bin f p k)).Perm p
 | 0,p,k=>cJ _
 | f+1,p,k=>by
   unfold kas_bin;rw [dz];exact (vH f _ _).trans (Hx _ _ _)
theorem zR (n:Nat):(ans lt (kas_sort n)).Perm (fG (bC n)):=by
 unfold kas_sort;rw [dz];have c:=xh (lt:=lt) n (fG (bC n));generalize ans lt (kas_count n (fG (bC n))) = r at c;by_cases h:r.1 < n
 . rw [if_pos h];exact (vH _ _ _).trans c
 . rw [if_neg h];exact c
theorem gi (n:Nat):(ans lt (kas_sort n)).toList.Perm (bC n):=by
 have:=(zR (lt:=lt) n).toList;simpa using this
end
mutual
theorem RdV.keep (k:∀ b o,h.get? b = some o->h'.get? b = some o):∀ (d:D) (u:af),RdV h d u->RdV h' d u
 | .non,u,r=>by unfold RdV at r ⊢;exact r
 | .bl _,u,r=>by unfold RdV at r ⊢;exact r
 | .int _,u,r=>by unfold RdV at r ⊢;exact r
 | .str _,u,r=>by unfold RdV at r ⊢;exact r
 | .lst ds,u,r=>by
   unfold RdV at r ⊢;obtain ⟨a,its,e,⟨o,h1,h2⟩,h3⟩:=r
   exact ⟨a,its,e,⟨o,k _ _ h1,h2⟩,RdL.keep k ds _ h3⟩
 | .tup ds,u,r=>by
   unfold RdV at r ⊢;obtain ⟨a,its,e,⟨o,h1,h2⟩,h3⟩:=r
   exact ⟨a,its,e,⟨o,k _ _ h1,h2⟩,RdL.keep k ds _ h3⟩
 | .fn _ _,u,r=>by unfold RdV at r;exact r.elim
theorem RdL.keep (k:∀ b o,h.get? b = some o->h'.get? b = some o):∀ (ds:List D) (us:List af),RdL h ds us->RdL h' ds us
 | [],us,r=>by unfold RdL at r ⊢;exact r
 | d::ds,us,r=>by
   unfold RdL at r ⊢;obtain ⟨w,ws,e,r1,r2⟩:=r;exact ⟨w,ws,e,RdV.keep k d w r1,RdL.keep k ds ws r2⟩
end
theorem RdL.nth:∀ {ds:List D} {us:List af} (i:Nat),RdL h ds us->i < ds.length->RdV h (ds.getD i .non) (us.getD i cm)
 | [],us,i,r,hi=>by simp at hi
 | d::ds,us,i,r,hi=>by
   unfold RdL at r;obtain ⟨w,ws,rfl,r1,r2⟩:=r
   cases i with
   | zero=>exact r1
   | succ i=>exact RdL.nth i r2 (by simpa using hi)
section
variable {prog:aM} {w:bj} {s:ai}
theorem HM {A:ba} {E:af->ai->Prop} {a b:D} {u v:af} {k:Bool} {Q:Bool->ai->Prop} (ra:RdV s.heap a u) (rb:RdV s.heap b v) (hk:(bE a = 1/\bE b = 1)\/(bE a = 2/\bE b = 2)) (h:ltD a b = some k) (q:Q k s):wpAny (model prog w) A (oneLt' true u v) Q E s:=by
 rcases hk with ⟨h1,h2⟩ | ⟨h1,h2⟩
 . cases a<;>first | (simp [bE] at h1;done) | skip
   . cases b<;>first | (simp [bE] at h2;done) | skip
     . unfold RdV at ra rb;obtain ⟨t,rfl⟩:=ra;obtain ⟨t',rfl⟩:=rb;unfold ltD at h;cases h;exact oneLt_str q
     . rename_i l;cases l with
       | nil=>simp [bE] at h2
       | cons x r=>cases x<;>simp [bE] at h2
   . rename_i l;cases l with
     | nil=>simp [bE] at h1
     | cons x r=>cases x<;>simp [bE] at h1
 . cases a<;>first | (simp [bE] at h1;done) | skip
   . cases b<;>first | (simp [bE] at h2;done) | skip
     . unfold RdV at ra rb;obtain ⟨t,rfl⟩:=ra;obtain ⟨t',rfl⟩:=rb;unfold ltD at h;cases h;exact oneLt_int q
     . rename_i l;cases l with
       | nil=>simp [bE] at h2
       | cons x r=>cases x<;>simp [bE] at h2
   . rename_i l;cases l with
     | nil=>simp [bE] at h1
     | cons x r=>cases x<;>simp [bE] at h1
theorem vg:∀ (as bs:List D) (us vs:List af) (i:Nat),RdL s.heap as us->RdL s.heap bs vs->A.units+min (cN as) (cN bs)+1 < cLine->hW as bs = some k->fin = decide (as.length < bs.length) ->
 (i = 0->∀ x y,as.head? = some x->bs.head? = some y->(bE x = 1/\bE y = 1)\/(bE x = 2/\bE y = 2))->Q k s->KatLex prog w A true fin Q (us.zip vs) i s
 | [],[],us,vs,i,ra,rb,hu,h,hf,hh,q=>by
   unfold RdL at ra rb;subst ra;subst rb;unfold hW at h;cases h;subst hf
   exact kat_nil q
 | [],y::ys,us,vs,i,ra,rb,hu,h,hf,hh,q=>by
   unfold RdL at ra;subst ra;unfold hW at h;cases h;have:fin = true:=by rw [hf];simp
   subst this
   exact kat_nil q
 | x::xs,[],us,vs,i,ra,rb,hu,h,hf,hh,q=>by
   unfold RdL at rb;subst rb;unfold hW at h;cases h;have:fin = false:=by rw [hf];simp
   subst this;rw [jc]
   exact kat_nil q
 | x::xs,y::ys,us,vs,i,ra,rb,hu,h,hf,hh,q=>by
   unfold RdL at ra rb;obtain ⟨u,us',rfl,ra1,ra2⟩:=ra;obtain ⟨v,vs',rfl,rb1,rb2⟩:=rb;unfold hW at h;unfold cN at hu;rw [cD];refine kat_cons (tR x y A s u v ra1 rb1 (by lia) prog w _ _ ?_)
   cases e:eqD x y with
   | true =>
     rw [e,if_pos rfl] at h
     exact kat_yes (vg xs ys us' vs' (i+1) ra2 rb2 (by lia) h (by rw [hf];simp) (fun z=>by lia) q)
   | false =>
     rw [e,if_neg aq] at h;refine kat_no ?_;by_cases hi:i = 0
     . subst hi;exact HM ra1 rb1 (hh rfl x y rfl rfl) h q
     . have e0:(true && i == 0) = false:=by simp [hi]
       rw [e0];exact kat_one u v (wY x y A s u v k ra1 rb1 (by lia) h prog w _ _ q)
end
end PP
end
section
namespace PP
open PySem
structure Ck where
 N:List Str
 sc:dS
 fns:List (Str × List Str)
 gn:List Str
noncomputable def zI (sc:dS) (x:Str):Bool:=match sc.names.lookup x with
 | some .local=>true | some .cell=>true | some .free=>true | _=>false
noncomputable def Kj (sc:dS) (x:Str):Bool:=match sc.names.lookup x with
 | some .local=>true | some .cell=>true | _=>false
noncomputable def glB (sc:dS) (x:Str):Bool:=match sc.names.lookup x with
 | some .globalImplicit=>true | _=>false
noncomputable def DD (x:Str):Bool:=!(x == ("__debug__":Str)) && !(x == ("__classdict__":Str)) && !(x == ("__name__":Str))
noncomputable def eZ (c:Ck) (i:Nat) (x:Str):Bool:=decide (c.N[i]? = some x) && zI c.sc x && DD x
noncomputable def jM (c:Ck) (i:Nat) (x:Str):Bool:=decide (c.N[i]? = some x) && Kj c.sc x && DD x
noncomputable def fA (c:Ck) (x:Str):Bool:=glB c.sc x && DD x
noncomputable def Ms:Op->xC->Bool
 | .add,.Add=>true | .sub,.Sub=>true | .mul,.Mult=>true | .mod,.Mod=>true | .fdiv,.FloorDiv=>true
 | _,_=>false
noncomputable def yN:Cop->CmpOp->Bool
 | .lt,.Lt=>true | .le,.LtE=>true | .gt,.Gt=>true | .eq,.Eq=>true | .ne,.NotEq=>true | .isin,.In=>true | .notin,.NotIn=>true
 | _,_=>false
noncomputable def rL:Blt->Str
 | .len=>"len" | .toInt=>"int" | .toStr=>"str" | .toTup=>"tuple" | .toLst=>"list" | .any=>"any" | .sorted=>"sorted"
 | .isBool=>"isinstance"
noncomputable def jw:List Str:=["len","min","max","int","str","tuple","list","dict","sum","isinstance","bool","range","sorted","set","zip","any","divmod","reversed","all"]
noncomputable def gL:Es->Bool
 | .nil=>true
 | .cons e es=>!bL e && gL es
noncomputable def nD:Es->Bool
 | .nil=>true
 | .cons e es=>(!bL e || npS es) && nD es
noncomputable def vp:Es->Nat
 | .nil=>0
 | .cons _ es=>vp es+1
noncomputable def st (x:aE):Str:=match x with
 | .Name y _=>y
 | .Attribute _ m _=>m
 | _=>""
noncomputable def cst (x:aE):Const:=match x with
 | .Constant v _ _=>v
 | _=>.none
noncomputable def e1 (x:aE):aE:=match x with
 | .BinOp y _ _ _=>y
 | .Compare y _ _ _=>y
 | .UnaryOp _ y _=>y
 | .IfExp t _ _ _=>t
 | .Subscript y _ _=>y
 | .Call f _ _ _=>f
 | .Attribute y _ _=>y
 | .ListComp e _ _ _=>e
 | .SetComp e _ _ _=>e
 | _=>x
noncomputable def bop (x:aE):xC:=match x with
 | .BinOp _ o _ _=>o
 | _=>.Add
noncomputable def e2 (x:aE):aE:=match x with
 | .BinOp _ _ z _=>z
 | .IfExp _ y _ _=>y
 | .Subscript _ z _=>z
 | _=>x
noncomputable def NQ (x:aE):List CmpOp:=match x with
 | .Compare _ os _ _=>os
 | _=>[]
noncomputable def ls (x:aE):List aE:=match x with
 | .Compare _ _ zs _=>zs
 | .BoolOp _ vs _=>vs
 | .Tuple es _ _=>es
 | .List es _=>es
 | .Call _ as _ _=>as
 | _=>[]
noncomputable def NR (x:aE):PySem.BoolOp:=match x with
 | .BoolOp o _ _=>o
 | _=>.And
noncomputable def po (x:aE):Pos:=match x with
 | .Name _ p=>p
 | .BoolOp _ _ p=>p
 | .Call _ _ _ p=>p
 | .Attribute _ _ p=>p
 | .ListComp _ _ _ p=>p
 | _=>⟨0,0,0,0⟩
noncomputable def uop (x:aE):PySem.UnaryOp:=match x with
 | .UnaryOp o _ _=>o
 | _=>.Not
noncomputable def e3 (x:aE):aE:=match x with
 | .IfExp _ _ z _=>z
 | _=>x
noncomputable def o1 (x:aE):Option aE:=match x with
 | .Slice l _ _ _=>l
 | _=>none
noncomputable def o2 (x:aE):Option aE:=match x with
 | .Slice _ h _ _=>h
 | _=>none
noncomputable def o3 (x:aE):Option aE:=match x with
 | .Slice _ _ s _=>s
 | _=>none
noncomputable def kws (x:aE):List jz:=match x with
 | .Call _ _ ks _=>ks
 | _=>[]
noncomputable def gns (x:aE):List pq:=match x with
 | .ListComp _ gs _ _=>gs
 | .SetComp _ gs _ _=>gs
 | _=>[]
noncomputable def scp (x:aE) (d:dS):dS:=match x with
 | .ListComp _ _ sc _=>sc
 | .SetComp _ _ sc _=>sc
 | _=>d
noncomputable def jl:aE->Nat
 | .Name .. => 0
 | .Constant .. => 1
 | .BinOp .. => 2
 | .Compare .. => 3
 | .BoolOp .. => 4
 | .UnaryOp .. => 5
 | .IfExp .. => 6
 | .Tuple .. => 7
 | .List .. => 8
 | .Subscript .. => 9
 | .Slice .. => 10
 | .Call .. => 11
 | .Attribute .. => 12
 | .ListComp .. => 13
 | .SetComp .. => 14
 | .JoinedStr .. => 15
 | .FormattedValue .. => 16
 | _=>99
noncomputable def MG (x:aE):Nat->Prop
 | 0=>∃ y p,x = .Name y p
 | 1=>∃ v n p,x = .Constant v n p
 | 2=>∃ y o z p,x = .BinOp y o z p
 | 3=>∃ y os zs p,x = .Compare y os zs p
 | 4=>∃ o vs p,x = .BoolOp o vs p
 | 5=>∃ o y p,x = .UnaryOp o y p
 | 6=>∃ t y z p,x = .IfExp t y z p
 | 7=>∃ es n p,x = .Tuple es n p
 | 8=>∃ es p,x = .List es p
 | 9=>∃ y z p,x = .Subscript y z p
 | 10=>∃ l u s p,x = .Slice l u s p
 | 11=>∃ f as ks p,x = .Call f as ks p
 | 12=>∃ y m p,x = .Attribute y m p
 | 13=>∃ e gs sc p,x = .ListComp e gs sc p
 | 14=>∃ e gs sc p,x = .SetComp e gs sc p
 | 15=>∃ vs p,x = .JoinedStr vs p
 | 16=>∃ y cv sp p,x = .FormattedValue y cv sp p
 | _=>True
theorem DW (x:aE):MG x (jl x):=by
 cases x<;>first | trivial | exact ⟨_,_,rfl⟩ | exact ⟨_,_,_,rfl⟩ | exact ⟨_,_,_,_,rfl⟩ | exact ⟨_,_,_,_,_,rfl⟩
theorem dJ (h:((jl x == n) && b) = true):MG x n/\b = true:=by
 rw [aa] at h;exact ⟨eq_of_beq h.1▸DW x,h.2⟩
@[irreducible] noncomputable def eJ (x:aE) (k:Str->Bool):Bool:=(jl x == 0) && k (st x)
theorem cy (h:eJ x k = true):∃ y p,x = .Name y p/\k y = true:=by
 unfold eJ at h;obtain ⟨⟨y,p,rfl⟩,h⟩:=dJ h;exact ⟨y,p,rfl,h⟩
@[irreducible] noncomputable def onC (x:aE) (k:Const->Bool):Bool:=(jl x == 1) && k (cst x)
theorem qc (h:onC x k = true):∃ v n p,x = .Constant v n p/\k v = true:=by
 unfold onC at h;obtain ⟨⟨v,n,p,rfl⟩,h⟩:=dJ h;exact ⟨v,n,p,rfl,h⟩
@[irreducible] noncomputable def Dy (x:aE) (k:aE->xC->aE->Bool):Bool:=(jl x == 2) && k (e1 x) (bop x) (e2 x)
theorem va (h:Dy x k = true):∃ y o z p,x = .BinOp y o z p/\k y o z = true:=by
 unfold Dy at h;obtain ⟨⟨y,o,z,p,rfl⟩,h⟩:=dJ h;exact ⟨y,o,z,p,rfl,h⟩
@[irreducible] noncomputable def Dw (x:aE) (k:aE->List CmpOp->List aE->Bool):Bool:=(jl x == 3) && k (e1 x) (NQ x) (ls x)
theorem qb (h:Dw x k = true):∃ y os zs p,x = .Compare y os zs p/\k y os zs = true:=by
 unfold Dw at h;obtain ⟨⟨y,os,zs,p,rfl⟩,h⟩:=dJ h;exact ⟨y,os,zs,p,rfl,h⟩
@[irreducible] noncomputable def Dx (x:aE) (k:PySem.BoolOp->List aE->Pos->Bool):Bool:=(jl x == 4) && k (NR x) (ls x) (po x)
theorem mw (h:Dx x k = true):∃ o vs p,x = .BoolOp o vs p/\k o vs p = true:=by
 unfold Dx at h;obtain ⟨⟨o,vs,p,rfl⟩,h⟩:=dJ h;exact ⟨o,vs,p,rfl,h⟩
@[irreducible] noncomputable def Dp (x:aE) (k:PySem.UnaryOp->aE->Bool):Bool:=(jl x == 5) && k (uop x) (e1 x)
theorem oT (h:Dp x k = true):∃ o y p,x = .UnaryOp o y p/\k o y = true:=by
 unfold Dp at h;obtain ⟨⟨o,y,p,rfl⟩,h⟩:=dJ h;exact ⟨o,y,p,rfl,h⟩
@[irreducible] noncomputable def JV (x:aE) (k:aE->aE->aE->Bool):Bool:=(jl x == 6) && k (e1 x) (e2 x) (e3 x)
theorem yp (h:JV x k = true):∃ t y z p,x = .IfExp t y z p/\k t y z = true:=by
 unfold JV at h;obtain ⟨⟨t,y,z,p,rfl⟩,h⟩:=dJ h;exact ⟨t,y,z,p,rfl,h⟩
@[irreducible] noncomputable def pY (x:aE) (k:List aE->Bool):Bool:=(jl x == 7) && k (ls x)
theorem iE (h:pY x k = true):∃ es n p,x = .Tuple es n p/\k es = true:=by
 unfold pY at h;obtain ⟨⟨es,n,p,rfl⟩,h⟩:=dJ h;exact ⟨es,n,p,rfl,h⟩
@[irreducible] noncomputable def Dt (x:aE) (k:List aE->Bool):Bool:=(jl x == 8) && k (ls x)
theorem qa (h:Dt x k = true):∃ es p,x = .List es p/\k es = true:=by
 unfold Dt at h;obtain ⟨⟨es,p,rfl⟩,h⟩:=dJ h;exact ⟨es,p,rfl,h⟩
@[irreducible] noncomputable def pZ (x:aE) (k:aE->aE->Bool):Bool:=(jl x == 9) && k (e1 x) (e2 x)
theorem jq (h:pZ x k = true):∃ y z p,x = .Subscript y z p/\k y z = true:=by
 unfold pZ at h;obtain ⟨⟨y,z,p,rfl⟩,h⟩:=dJ h;exact ⟨y,z,p,rfl,h⟩
@[irreducible] noncomputable def GH (x:aE) (k:Option aE->Option aE->Option aE->Bool):Bool:=(jl x == 10) && k (o1 x) (o2 x) (o3 x)
theorem sP (h:GH x k = true):∃ l u s p,x = .Slice l u s p/\k l u s = true:=by
 unfold GH at h;obtain ⟨⟨l,u,s,p,rfl⟩,h⟩:=dJ h;exact ⟨l,u,s,p,rfl,h⟩
@[irreducible] noncomputable def sS (x:aE) (k:aE->List aE->List jz->Pos->Bool):Bool:=(jl x == 11) && k (e1 x) (ls x) (kws x) (po x)
theorem rm (h:sS x k = true):∃ f as ks p,x = .Call f as ks p/\k f as ks p = true:=by
 unfold sS at h;obtain ⟨⟨f,as,ks,p,rfl⟩,h⟩:=dJ h;exact ⟨f,as,ks,p,rfl,h⟩
@[irreducible] noncomputable def JY (x:aE) (k:aE->Str->Pos->Bool):Bool:=(jl x == 12) && k (e1 x) (st x) (po x)
theorem GN (h:JY x k = true):∃ y m p,x = .Attribute y m p/\k y m p = true:=by
 unfold JY at h;obtain ⟨⟨y,m,p,rfl⟩,h⟩:=dJ h;exact ⟨y,m,p,rfl,h⟩
@[irreducible] noncomputable def GJ (x:aE) (k:aE->List pq->dS->Pos->Bool):Bool:=(jl x == 13) && k (e1 x) (gns x) (scp x default) (po x)
theorem oU (h:GJ x k = true):∃ e gs sc p,x = .ListComp e gs sc p/\k e gs sc p = true:=by
 unfold GJ at h;obtain ⟨⟨e,gs,sc,p,rfl⟩,h⟩:=dJ h;exact ⟨e,gs,sc,p,rfl,h⟩
@[irreducible] noncomputable def JU (x:aE) (k:aE->List pq->dS->Bool):Bool:=(jl x == 14) && k (e1 x) (gns x) (scp x default)
theorem GI (h:JU x k = true):∃ e gs sc p,x = .SetComp e gs sc p/\k e gs sc = true:=by
 unfold JU at h;obtain ⟨⟨e,gs,sc,p,rfl⟩,h⟩:=dJ h;exact ⟨e,gs,sc,p,rfl,h⟩
noncomputable def sls (x:cY):List aE:=match x with
 | .Assign ts _ _=>ts
 | _=>[]
noncomputable def s1 (x:cY):aE:=match x with
 | .Assign _ y _=>y
 | .AugAssign t _ _ _=>t
 | .If t _ _ _=>t
 | .For t _ _ _ _=>t
 | .While t _ _ _=>t
 | .Expr y _=>y
 | _=>.Constant .none 0 ⟨0,0,0,0⟩
noncomputable def s2 (x:cY):aE:=match x with
 | .AugAssign _ _ y _=>y
 | .For _ it _ _ _=>it
 | _=>.Constant .none 0 ⟨0,0,0,0⟩
noncomputable def so (x:cY):Option aE:=match x with
 | .Return y _=>y
 | _=>none
noncomputable def sb (x:cY):List cY:=match x with
 | .If _ y _ _=>y
 | .For _ _ y _ _=>y
 | .While _ y _ _=>y
 | _=>[]
noncomputable def sc2 (x:cY):List cY:=match x with
 | .If _ _ z _=>z
 | .For _ _ _ z _=>z
 | .While _ _ z _=>z
 | _=>[]
noncomputable def wu:cY->Nat
 | .Assign .. => 0
 | .AugAssign .. => 1
 | .Return .. => 2
 | .If .. => 3
 | .For .. => 4
 | .While .. => 5
 | .Expr .. => 6
 | _=>99
noncomputable def MF (x:cY):Nat->Prop
 | 0=>∃ ts y p,x = .Assign ts y p
 | 1=>∃ t o y p,x = .AugAssign t o y p
 | 2=>∃ y p,x = .Return y p
 | 3=>∃ t y z p,x = .If t y z p
 | 4=>∃ t it y z p,x = .For t it y z p
 | 5=>∃ t y z p,x = .While t y z p
 | 6=>∃ y p,x = .Expr y p
 | _=>True
theorem DV (x:cY):MF x (wu x):=by
 cases x<;>first | trivial | exact ⟨_,_,rfl⟩ | exact ⟨_,_,_,rfl⟩ | exact ⟨_,_,_,_,rfl⟩ | exact ⟨_,_,_,_,_,rfl⟩
theorem mC (h:((wu x == n) && b) = true):MF x n/\b = true:=by
 rw [aa] at h;exact ⟨eq_of_beq h.1▸DV x,h.2⟩
@[irreducible] noncomputable def rq (x:cY) (k:List aE->aE->Bool):Bool:=(wu x == 0) && k (sls x) (s1 x)
theorem mx (h:rq x k = true):∃ ts y p,x = .Assign ts y p/\k ts y = true:=by
 unfold rq at h;obtain ⟨⟨ts,y,p,rfl⟩,h⟩:=mC h;exact ⟨ts,y,p,rfl,h⟩
@[irreducible] noncomputable def Dr (x:cY) (k:Option aE->Bool):Bool:=(wu x == 2) && k (so x)
theorem Dq (h:Dr x k = true):∃ y p,x = .Return y p/\k y = true:=by
 unfold Dr at h;obtain ⟨⟨y,p,rfl⟩,h⟩:=mC h;exact ⟨y,p,rfl,h⟩
@[irreducible] noncomputable def Dv (x:cY) (k:aE->List cY->List cY->Bool):Bool:=(wu x == 3) && k (s1 x) (sb x) (sc2 x)
theorem Du (h:Dv x k = true):∃ t y z p,x = .If t y z p/\k t y z = true:=by
 unfold Dv at h;obtain ⟨⟨t,y,z,p,rfl⟩,h⟩:=mC h;exact ⟨t,y,z,p,rfl,h⟩
@[irreducible] noncomputable def yq (x:cY) (k:aE->aE->List cY->List cY->Bool):Bool:=(wu x == 4) && k (s1 x) (s2 x) (sb x) (sc2 x)
theorem uZ (h:yq x k = true):∃ t it y z p,x = .For t it y z p/\k t it y z = true:=by
 unfold yq at h;obtain ⟨⟨t,it,y,z,p,rfl⟩,h⟩:=mC h;exact ⟨t,it,y,z,p,rfl,h⟩
@[irreducible] noncomputable def GK (x:cY) (k:aE->Bool):Bool:=(wu x == 6) && k (s1 x)
theorem yt (h:GK x k = true):∃ y p,x = .Expr y p/\k y = true:=by
 unfold GK at h;obtain ⟨⟨y,p,rfl⟩,h⟩:=mC h;exact ⟨y,p,rfl,h⟩
section
variable {α:Type} {xs:List α}
@[irreducible] noncomputable def on0 (xs:List α) (k:Bool):Bool:=match xs with
 | []=>k
 | _=>false
theorem fy (h:on0 xs k = true):xs = []/\k = true:=by
 unfold on0 at h;cases xs<;>first | exact ⟨rfl,h⟩ | cases h
@[irreducible] noncomputable def onS (xs:List α) (k:α->List α->Bool):Bool:=match xs with
 | y::ys=>k y ys
 | _=>false
theorem eu (h:onS xs k = true):∃ y ys,xs = y::ys/\k y ys = true:=by
 unfold onS at h;cases xs<;>first | exact ⟨_,_,rfl,h⟩ | cases h
@[irreducible] noncomputable def on1 (xs:List α) (k:α->Bool):Bool:=onS xs fun y ys=>on0 ys (k y)
theorem fx (h:on1 xs k = true):∃ y,xs = [y]/\k y = true:=by
 unfold on1 at h;obtain ⟨y,ys,rfl,h1⟩:=eu h;obtain ⟨rfl,h2⟩:=fy h1;exact ⟨y,rfl,h2⟩
@[irreducible] noncomputable def on2 (xs:List α) (k:α->α->Bool):Bool:=onS xs fun y ys=>on1 ys (k y)
theorem nB (h:on2 xs k = true):∃ y z,xs = [y,z]/\k y z = true:=by
 unfold on2 at h;obtain ⟨y,ys,rfl,h1⟩:=eu h;obtain ⟨z,rfl,h2⟩:=fx h1;exact ⟨y,z,rfl,h2⟩
end
@[irreducible] noncomputable def onI (v:Const) (k:Int->Bool):Bool:=match v with
 | .int i=>k i
 | _=>false
theorem JW (h:onI v k = true):∃ i,v = .int i/\k i = true:=by
 unfold onI at h;cases v<;>first | exact ⟨_,rfl,h⟩ | cases h
@[irreducible] noncomputable def onB (v:Const) (k:Bool->Bool):Bool:=match v with
 | .bool i=>k i
 | _=>false
theorem JX (h:onB v k = true):∃ i,v = .bool i/\k i = true:=by
 unfold onB at h;cases v<;>first | exact ⟨_,rfl,h⟩ | cases h
@[irreducible] noncomputable def onT (v:Const) (k:Str->Bool):Bool:=match v with
 | .str i=>k i
 | _=>false
theorem JT (h:onT v k = true):∃ i,v = .str i/\k i = true:=by
 unfold onT at h;cases v<;>first | exact ⟨_,rfl,h⟩ | cases h
noncomputable def HQ:Const->Bool
 | .none=>true
 | _=>false
theorem DR (h:HQ v = true):v = .none:=by
 cases v<;>first | rfl | cases h
@[irreducible] noncomputable def qF (x:aE) (k:Str->List aE->Bool):Bool:=sS x fun f as ks _=>eJ f fun n=>on0 ks (k n as)
theorem gu (h:qF x k = true):∃ n np as p,x = .Call (.Name n np) as [] p/\k n as = true:=by
 unfold qF at h;obtain ⟨f,as,ks,p,rfl,h1⟩:=rm h;obtain ⟨n,np,rfl,h2⟩:=cy h1;obtain ⟨rfl,h3⟩:=fy h2;exact ⟨n,np,as,p,rfl,h3⟩
@[irreducible] noncomputable def onM (x:aE) (k:aE->Str->List aE->Bool):Bool:=sS x fun f as ks cp=>JY f fun y m ap=>on0 ks (decide (ap.endLine = cp.line) && k y m as)
theorem sQ (h:onM x k = true):∃ y m ap as cp,x = .Call (.Attribute y m ap) as [] cp/\ap.endLine = cp.line/\k y m as = true:=by
 unfold onM at h;obtain ⟨f,as,ks,cp,rfl,h1⟩:=rm h;obtain ⟨y,m,ap,rfl,h2⟩:=GN h1;obtain ⟨rfl,h3⟩:=fy h2;rw [aa] at h3;exact ⟨y,m,ap,as,cp,rfl,of_decide_eq_true h3.1,h3.2⟩
@[irreducible] noncomputable def onG (g:pq) (k:aE->aE->List aE->Bool):Bool:=decide (g.is_async = 0) && k g.target g.iter g.ifs
theorem sR (h:onG g k = true):∃ t it il,g = ⟨t,it,il,0⟩/\k t it il = true:=by
 obtain ⟨t,it,il,a⟩:=g;unfold onG at h;rw [aa] at h;have e:a = 0:=of_decide_eq_true h.1;subst e;exact ⟨t,it,il,rfl,h.2⟩
noncomputable def sv:aE->Option (List Str)
 | .Name x _=>some [x]
 | .Tuple es _ _=>es.mapM fun | .Name x _=>some x | _=>none
 | _=>none
noncomputable def KH (c:Ck):List Nat->List aE->Bool
 | [],es=>on0 es true
 | i::is,es=>onS es fun e r=>eJ e (fun x=>jM c i x) && KH c is r
noncomputable def nK (c:Ck):Tg->aE->Bool
 | .nm i,x=>eJ x fun y=>jM c i y
 | .tp is,x=>pY x fun es=>KH c is es
noncomputable def lG (n:Nat):Tg->Bool
 | .nm i=>decide (n<=i)
 | .tp is=>is.all fun i=>decide (n<=i)
noncomputable def js (ts:List Str) (N:List Str):List Str:=N.map fun y=>if ts.contains y then y++(" ":Str) else y
noncomputable def jJ (c:Ck) (sc:dS):Bool :=
 decide (sc.kind = .function) && sc.names.all fun p=>decide (p.2≠.cell) && (!decide (p.2 = .local) || decide (sc.names.lookup p.1 = some .local)) &&
  (!decide (p.2 = .free) || (match c.sc.names.lookup p.1 with | some .cell=>true | some .free=>true | _=>false))
noncomputable def namesOk (c:Ck) (sc:dS) (Nc:List Str):Bool :=
 decide Nc.Nodup && (bC c.N.length).all fun i=>match Nc[i]? with
  | some x=>!zI sc x || (decide (c.N[i]? = some x) && decide (sc.names.lookup x = some .free))
  | none=>false
noncomputable def HP:PySem.UnaryOp->Bool
 | .Not=>true
 | _=>false
noncomputable def isNeg:PySem.UnaryOp->Bool
 | .USub=>true
 | _=>false
theorem vj (h:HP o = true):o = .Not:=by cases o<;>first | rfl | cases h
theorem DS (h:isNeg o = true):o = .USub:=by cases o<;>first | rfl | cases h
@[irreducible] noncomputable def onO (x:Option aE) (k:aE->Bool):Bool:=match x with
 | some y=>k y
 | none=>false
theorem Ds (h:onO x k = true):∃ y,x = some y/\k y = true:=by
 unfold onO at h
 cases x with
 | none=>cases h
 | some y=>exact ⟨y,rfl,h⟩
noncomputable def fb:aE->Bool
 | .Name .. | .Constant .. | .BinOp .. | .Compare .. | .BoolOp .. | .UnaryOp .. | .IfExp .. | .Tuple .. | .List .. | .Subscript .. | .Call .. | .ListComp .. => true
 | .JoinedStr .. => true
 | _=>false
variable [Tbs]
mutual
noncomputable def ckE (c:Ck):E->aE->Bool
 | .var i,x=>eJ x fun y=>eZ c i y
 | .pk i,x=>eJ x fun y=>eZ c i y
 | .glob g,x=>eJ x fun y=>decide (c.gn[g]? = some y) && fA c y
 | .int i,x=>onC x fun v=>onI v fun j=>decide (i = j)
 | .bl b,x=>onC x fun v=>onB v fun j=>decide (b = j)
 | .non,x=>onC x HQ
 | .str t,x=>onC x fun v=>onT v fun u=>decide (t = u)
 | .bin op a b,x=>Dy x fun y o z=>Ms op o && ckE c a y && ckE c b z && (!bL a || np b)
 | .cmp op a b,x=>Dw x fun y os zs=>on1 os fun o=>on1 zs fun z=>yN op o && ckE c a y && ckE c b z && (!bL a || np b)
 | .and a b,x=>Dx x fun o vs p=>onS vs fun y r=>onS r fun z r2=>(match o with
   | .And=>true
   | .Or=>false) && ckE c a y && ckE c b (match r2 with
   | []=>z
   | _::_=>.BoolOp .And (z::r2) p) && !bL a && !bL b
 | .or a b,x=>Dx x fun o vs p=>onS vs fun y r=>onS r fun z r2=>(match o with
   | .And=>false
   | .Or=>true) && ckE c a y && ckE c b (match r2 with
   | []=>z
   | _::_=>.BoolOp .Or (z::r2) p) && !bL a && !bL b
 | .not a,x=>Dp x fun o y=>HP o && ckE c a y && !bL a
 | .neg a,x=>Dp x fun o y=>isNeg o && ckE c a y && !bL a
 | .ite k a b,x=>JV x fun t y z=>ckE c k t && ckE c a y && ckE c b z && !bL a && !bL b
 | .tup es,x=>pY x fun xs=>gc c es xs && gL es
 | .lst es,x=>Dt x fun xs=>gc c es xs && gL es
 | .ix a b,x=>pZ x fun y z=>ckE c a y && ckE c b z && (!bL a || np b) && !bL b
 | .rvt a s,x=>pZ x fun y z=>GH z fun l h t=>l.isNone && (h.isNone && (ckE c a y && (ckO c s t && !bL a)))
 | .sl a lo hi,x=>pZ x fun y z=>GH z fun l h s=>s.isNone && (ckE c a y && ckO c lo l && ckO c hi h && (!bL a || (npO lo && npO hi)))
 | .call f es,x=>qF x fun n xs=>(match c.fns[f]? with
    | some (m,ps)=>decide (m = n) && fA c n && decide (ps.length = vp es) && gc c es xs && gL es && !xs.isEmpty
    | none=>false)
 | .blt f es,x=>qF x fun n xs=>decide (rL f = n) && fA c n && (match tyName f with
    | some T=>on2 xs fun y w=>eJ w fun t=>decide (t = (T:Str)) && fA c t && gc c es [y] && nD es
    | none=>!xs.isEmpty && gc c es xs && nD es)
 | .callv i es,x=>qF x fun n xs=>eZ c i n && gc c es xs && gL es && !xs.isEmpty
 | .callF f es i,x=>qF x fun n xs=>(match c.fns[f]?,xs.getLast? with
    | some (m,ps),some y=>eJ y fun y=>decide (m = n) && fA c n && decide (ps.length = vp es+1) && gc c es xs.dropLast && gL es && eZ c i y && !xs.dropLast.isEmpty
    | _,_=>false)
 | .bad,x=>fb x
 | .isdig i,x=>onM x fun y m as=>eJ y fun y=>on0 as (decide (m = ("isdigit":Str)) && eZ c i y)
 | .comp k tg src ifs elt,x=>GJ x fun ex gs sc _=>on1 gs fun g=>onG g fun t it il=>(match sv t with
    | some ts=>decide (ts.length = k) && lG c.N.length tg && jJ c sc && namesOk c sc (js ts c.N++ts) && nK ⟨js ts c.N++ts,sc,c.fns,c.gn⟩ tg t && ckI c src it &&
       ckG ⟨js ts c.N++ts,sc,c.fns,c.gn⟩ ifs il && ckE ⟨js ts c.N++ts,sc,c.fns,c.gn⟩ elt ex && !bL elt
    | none=>false)
 | .sset k tg1 src1 tg2 src2 ifs elt,x=>qF x fun f as=>on1 as fun w=>JU w fun ex gs sc=>on2 gs fun g1 g2=>onG g1 fun t1 it1 il1=>onG g2 fun t2 it2 il=>on0 il1 (decide (f = ("sorted":Str)) && fA c f && (match sv t1,sv t2 with
    | some n1,some n2=>decide ((n1++n2).length = k) && lG c.N.length tg1 && lG c.N.length tg2 && jJ c sc && namesOk c sc (js (n1++n2) c.N++(n1++n2)) && nK ⟨js (n1++n2) c.N++(n1++n2),sc,c.fns,c.gn⟩ tg1 t1 && nK ⟨js (n1++n2) c.N++(n1++n2),sc,c.fns,c.gn⟩ tg2 t2 && ckI c src1 it1 &&
       ckI ⟨js (n1++n2) c.N++(n1++n2),sc,c.fns,c.gn⟩ src2 it2 && ckG ⟨js (n1++n2) c.N++(n1++n2),sc,c.fns,c.gn⟩ ifs il && ckE ⟨js (n1++n2) c.N++(n1++n2),sc,c.fns,c.gn⟩ elt ex && !bL elt
    | _,_=>false))
noncomputable def gc (c:Ck):Es->List aE->Bool
 | .nil,xs=>on0 xs true
 | .cons e es,xs=>onS xs fun y ys=>ckE c e y && gc c es ys
noncomputable def ckO (c:Ck):Eo->Option aE->Bool
 | .no,x=>x.isNone
 | .yes e,x=>onO x fun y=>ckE c e y && !bL e
noncomputable def ckG (c:Ck):Eo->List aE->Bool
 | .no,x=>on0 x true
 | .yes e,x=>on1 x fun y=>ckE c e y
noncomputable def ckI (c:Ck):It->aE->Bool
 | .rng e,x=>qF x fun n xs=>on1 xs fun y=>decide (n = ("range":Str)) && fA c n && ckE c e y && !bL e
 | .sq e,x=>ckE c e x && !bL e
end
theorem eH (h:gc c es (y::ys) = true):∃ e es',es = .cons e es'/\ckE c e y = true/\gc c es' ys = true:=by
 cases es with
 | nil=>cases (fy h).1
 | cons e es =>
   obtain ⟨_,_,q,h'⟩:=eu h;cases q;rw [aa] at h';exact ⟨e,es,rfl,h'⟩
theorem pI (h:nK c tg t = true):(∃ x p,t = .Name x p)\/∃ es n p,t = .Tuple es n p:=by
 cases tg with
 | nm i=>obtain ⟨x,p,rfl,_⟩:=cy h;exact .inl ⟨x,p,rfl⟩
 | tp is=>obtain ⟨es,n,p,rfl,_⟩:=iE h;exact .inr ⟨es,n,p,rfl⟩
theorem hdN (h:eJ x k = true):fb x = true:=by obtain ⟨_,_,rfl,_⟩:=cy h;rfl
theorem hdC (h:onC x k = true):fb x = true:=by obtain ⟨_,_,_,rfl,_⟩:=qc h;rfl
theorem hdF (h:qF x k = true):fb x = true:=by obtain ⟨_,_,_,_,rfl,_⟩:=gu h;rfl
theorem hdM (h:onM x k = true):fb x = true:=by obtain ⟨_,_,_,_,_,rfl,_⟩:=sQ h;rfl
theorem hdB (h:Dx x k = true):fb x = true:=by obtain ⟨_,_,_,rfl,_⟩:=mw h;rfl
theorem hdU (h:Dp x k = true):fb x = true:=by obtain ⟨_,_,_,rfl,_⟩:=oT h;rfl
theorem hdS (h:pZ x k = true):fb x = true:=by obtain ⟨_,_,_,rfl,_⟩:=jq h;rfl
theorem bX (h:ckE c e x = true):fb x = true:=by
 cases e with
 | var i=>exact hdN h
 | pk i=>exact hdN h
 | glob g=>exact hdN h
 | int i=>exact hdC h
 | bl b=>exact hdC h
 | non=>exact hdC h
 | str t=>exact hdC h
 | bin op a b=>obtain ⟨_,_,_,_,rfl,_⟩:=va h;rfl
 | cmp op a b=>obtain ⟨_,_,_,_,rfl,_⟩:=qb h;rfl
 | and a b=>exact hdB h
 | or a b=>exact hdB h
 | not a=>exact hdU h
 | neg a=>exact hdU h
 | ite k a b=>obtain ⟨_,_,_,_,rfl,_⟩:=yp h;rfl
 | tup es=>obtain ⟨_,_,_,rfl,_⟩:=iE h;rfl
 | lst es=>obtain ⟨_,_,rfl,_⟩:=qa h;rfl
 | ix a b=>exact hdS h
 | sl a lo hi=>exact hdS h
 | rvt a s=>exact hdS h
 | call f es=>exact hdF h
 | blt f es=>exact hdF h
 | callv i es=>exact hdF h
 | callF f es i=>exact hdF h
 | bad=>exact h
 | isdig i=>exact hdM h
 | comp k tg src ifs elt=>obtain ⟨_,_,_,_,rfl,_⟩:=oU h;rfl
 | sset k tg1 src1 tg2 src2 ifs elt=>exact hdF h
theorem cK (h:fb x = true) (xs:List aE) (env:Env):starEach (x::xs) env = (false,eval x env)::starEach xs env:=by
 cases x<;>first | rfl | (exact absurd h aq)
theorem Ea (h:fb x = true) (env:Env) (v:af):foldedSetIterable x env v = pure v:=by
 cases x<;>first | rfl | (exact absurd h aq)
theorem rG (h:fb x = true) (op:CmpOp):behindInMarks op x = false:=by
 cases x<;>first | rfl | (exact absurd h aq)
theorem Hd (h:fb x = true):L2.PlainIx x:=by
 intro o i;cases x<;>first | rfl | (exact absurd h aq)
noncomputable def kB:aE->Bool
 | .ListComp .. => true
 | _=>false
theorem qi (h:fb x = true) (hc:kB x = false) (t:Option aE) (n:Nat) (env:Env):swapsWith x t n env = pure false:=by
 cases x<;>first | rfl | (exact absurd h aq) | (exact absurd hc.symm aq)
noncomputable def DU:E->Bool
 | .comp .. => true
 | _=>false
@[irreducible] noncomputable def wM (x:aE) (k:Str->Pos->Bool):Bool:=(jl x == 0) && k (st x) (po x)
theorem mv (h:wM x k = true):∃ y p,x = .Name y p/\k y p = true:=by
 unfold wM at h;obtain ⟨⟨y,p,rfl⟩,h⟩:=dJ h;exact ⟨y,p,rfl,h⟩
noncomputable def newOk:E->Bool
 | .lst _=>true
 | .blt .toLst _=>true
 | .sl _ _ _=>true
 | _=>false
noncomputable def isNm (x:aE):Bool:=jl x == 0
noncomputable def GZ (x:aE):Bool:=jl x == 7
noncomputable def Mn (c:Ck) (i j:Nat) (es:Es) (t y:aE):Bool:=pY t fun us=>on2 us fun u v=>wM u fun x px=>wM v fun z pz=>pY y fun vs=>on2 vs fun a b =>
 decide (c.N[i]? = some x) && decide (c.N[j]? = some z) && decide (c.sc.names.lookup x = some .local) && decide (c.sc.names.lookup z = some .local) && decide (x≠z) && decide (px.line = pz.line) && gc c es [a,b] && gL es && !(foldedForSure 8 a && foldedForSure 8 b) && !(constantsAlone 8 a && constantsAlone 8 b)
noncomputable def HK (c:Ck) (tg:Tg) (e:E) (t y:aE):Bool:=match tg,e with
 | .tp [i,j],.tup es=>Mn c i j es t y
 | _,_=>false
noncomputable def Mm (c:Ck) (t:aE):Bool:=pY t fun us=>on2 us fun u v=>wM u fun x _=>wM v fun _ _=>decide (c.sc.names.lookup x≠some .local)
mutual
noncomputable def ckS (c:Ck):S->cY->Bool
 | .asg tg e,x=>rq x fun ts y=>on1 ts fun t=>nK c tg t && ckE c e y && !bL e && !kB y && (isNm t || !GZ y || Mm c t || HK c tg e t y)
 | .new i e,x=>rq x fun ts y=>on1 ts fun t=>eJ t fun t=>jM c i t && ckE c e y && !kB y && newOk e
 | .cmp own i e,x=>DU e && rq x fun ts y=>on1 ts fun t=>wM t fun t tp=>GJ y fun ex gs sc p=>jM c i t && ckE c e (.ListComp ex gs sc p) && ((decide (c.sc.names.lookup t = some .local) && decide (tp.line = p.line) && !(sc.names.any fun (n,k)=>n == t && (k == .local || k == .cell))) || (!own && decide (c.sc.names.lookup t = some .cell)))
 | .ret e,x=>Dr x fun y=>onO y fun y=>ckE c e y && !bL e
 | .retL _ _ _ _,_=>false
 | .ifs k a b,x=>Dv x fun t y z=>ckE c k t && vD c a y && vD c b z
 | .for_ tg src body,x=>yq x fun t it y z=>on0 z (nK c tg t && ckI c src it && vD c body y)
 | .forZ tg es body,x=>yq x fun t it y z=>on0 z (qF it fun n xs=>on2 xs fun u v=>GZ t && decide (n = ("zip":Str)) && fA c n && nK c tg t && gc c es [u,v] && gL es && vD c body y)
 | .append i e,x=>GK x fun w=>onM w fun y m as=>eJ y fun y=>on1 as fun z=>decide (m = ("append":Str)) && eZ c i y && ckE c e z && !bL e
 | .extend i e,x=>GK x fun w=>onM w fun y m as=>eJ y fun y=>on1 as fun z=>decide (m = ("extend":Str)) && eZ c i y && ckE c e z && !bL e
 | .setix i j e,x=>rq x fun ts y=>on1 ts fun t=>pZ t fun w z=>eJ w fun t=>eZ c i t && ckE c e y && !bL e && !kB y && ckE c j z && !bL j
 | .bad,_=>true
noncomputable def vD (c:Ck):Ss->List cY->Bool
 | .nil,xs=>on0 xs true
 | .cons s ss,xs=>onS xs fun y ys=>ckS c s y && vD c ss ys
end
end PP
end
section
namespace PP
open PySem L2 PyProof.Rows
variable [Tbs]
noncomputable def MT (K:PySem.W.Frag) (G:Gh) (F:av->Prop) (σ:L2.St) (H:Hp) (m nP:Bool) (d:D) (δ':Loc) (Q:VK):Prop :=
 ∀ v H' F',Step G F H F' H'->(nP = true->Sim H H')->Ok K G F' σ H' δ'->RelM m K H' F' d v->Q v H'
noncomputable def tE (K:PySem.W.Frag) (cx:Cl) (e:E):TE:=fun σ H Q=>∃ G F δ d δ',Ok K G F σ H δ/\evE cx e δ = some (d,δ')/\MT K G F σ H (bL e) (np e) d δ' Q
noncomputable def tT (K:PySem.W.Frag) (cx:Cl) (e:E):TT:=fun σ H Q=>∃ G F δ b δ',Ok K G F σ H δ/\evT cx e δ = some (b,δ') /\
 ∀ H' F',Step G F H F' H'->(np e = true->Sim H H')->Ok K G F' σ H' δ'->Q b H'
noncomputable def mQ (K:PySem.W.Frag) (H:Hp) (F:av->Prop):Es->List D->List V->Prop
 | .nil,ds,vs=>ds = []/\vs = []
 | .cons e es,ds,vs=>∃ d ds' v vs',ds = d::ds'/\vs = v::vs'/\RelM (bL e) K H F d v/\mQ K H F es ds' vs'
noncomputable def tEs (K:PySem.W.Frag) (cx:Cl) (es:Es):TA:=fun σ H Q=>∃ G F δ ds δ',Ok K G F σ H δ/\fW cx es δ = some (ds,δ') /\
 ∀ vs H' F',Step G F H F' H'->(npS es = true->Sim H H')->Ok K G F' σ H' δ'->mQ K H' F' es ds vs->Q vs H'
noncomputable def tO (K:PySem.W.Frag) (cx:Cl) (o:Eo):TO:=fun σ H Q=>∃ G F δ d δ',Ok K G F σ H δ/\evO cx o δ = some (d,δ') /\
 ∀ H' F',Step G F H F' H'->(npO o = true->Sim H H')->Ok K G F' σ H' δ'->Q d H'
noncomputable def tG (K:PySem.W.Frag) (cx:Cl) (o:Eo):TT:=fun σ H Q=>∃ G F δ b δ',Ok K G F σ H δ/\evG cx o δ = some (b,δ') /\
 ∀ H' F',Step G F H F' H'->(npO o = true->Sim H H')->Ok K G F' σ H' δ'->Q b H'
noncomputable def Wk (K:PySem.W.Frag) (G:Gh) (F:av->Prop) (H:Hp) (J:L2.It) (ds:List D):Prop:=∀ F2 H2,Step G F H F2 H2->FD F2 H2->∀ i:Nat,
 (∀ d,ds[i]? = some d->J.go i H2/\∀ x H3,J.yld i H2 x H3->H3 = H2/\Rel K H2 F2 d x)/\(i = ds.length->J.stop i H2)
noncomputable def tI (K:PySem.W.Frag) (cx:Cl) (t:It):TI:=fun σ H R=>∃ G F δ ds δ',Ok K G F σ H δ/\evI cx t δ = some (ds,δ') /\
 ∀ J H' F',Step G F H F' H'->(npI t = true->Sim H H')->Ok K G F' σ H' δ'->(∀ G',Wk K G' F' H' J ds)->R J H'
section
variable {K:PySem.W.Frag} {cx:Cl} {X:Cx}
theorem PE.imp (h:PE X e t) (w:∀ σ H Q,t' σ H Q->t σ H Q):PE X e t':=fun pins s σ H Q I q=>h pins s σ H Q I (w σ H Q q)
theorem PT.imp (h:PT X e t) (w:∀ σ H Q,t' σ H Q->t σ H Q):PT X e t':=fun pins s σ H Q I q=>h pins s σ H Q I (w σ H Q q)
theorem two {a b:E} {σ:L2.St} {G:Gh} {H:Hp} {F:av->Prop} {δ δ1 δ2:Loc} {x y:D} (ok:Ok K G F σ H δ) (ea:evE cx a δ = some (x,δ1)) (eb:evE cx b δ1 = some (y,δ2)) (pc:(!bL a || np b) = true) {R:V->V->Hp->Prop}
 (k:∀ v u H2 F2,Step G F H F2 H2->((np a && np b) = true->Sim H H2)->Ok K G F2 σ H2 δ2->RelM (bL a) K H2 F2 x v->RelM (bL b) K H2 F2 y u->R v u H2) :
 tE K cx a σ H fun v H1=>tE K cx b σ H1 fun u H2=>R v u H2:=by
 refine ⟨G,F,δ,x,δ1,ok,ea,fun v H1 F1 st1 sm1 ok1 r1=>⟨G,F1,δ1,y,δ2,ok1,eb,fun u H2 F2 st2 sm2 ok2 r2=>?_⟩⟩;refine k v u H2 F2 (st1.trans st2) (fun z=>?_) ok2 (RelM.step ok1.fd st2 (fun z=>sm2 (by rw [z] at pc;simpa using pc)) r1) r2;rw [aa] at z;exact (sm1 z.1).trans (sm2 z.2)
theorem dD.int {H:Hp} {F:av->Prop} {i:Int} {v:V} (h:dD K H F (.int i) v):v = .int i:=by
 rcases h with h | ⟨_,_,_,e,_⟩
 . unfold Rel at h;exact h
 . cases e
theorem dD.bl (h:dD K H F (.bl i) v):v = .bl i:=by
 rcases h with h | ⟨_,_,_,e,_⟩
 . unfold Rel at h;exact h
 . cases e
theorem dD.str {H:Hp} {F:av->Prop} {i:Str} {v:V} (h:dD K H F (.str i) v):v = .str i:=by
 rcases h with h | ⟨_,_,_,e,_⟩
 . unfold Rel at h;exact h
 . cases e
theorem dD.tup {H:Hp} {F:av->Prop} {ds:List D} {v:V} (h:dD K H F (.tup ds) v):∃ a xs,v = .ref a/\SqT K H a xs/\aG K H F ds xs:=by
 rcases h with h | ⟨_,_,_,e,_⟩
 . unfold Rel at h;exact h
 . cases e
theorem dD.lst {H:Hp} {F:av->Prop} {ds:List D} {v:V} (h:dD K H F (.lst ds) v):∃ a xs,v = .ref a/\LsB K H a xs/\aG K H F ds xs:=by
 rcases h with h | ⟨a,xs,_,e,e2,h1,h2⟩
 . unfold Rel at h;obtain ⟨a,xs,e,h1,h2⟩:=h;exact ⟨a,xs,e,h1.b,h2⟩
 . cases e;exact ⟨a,xs,e2,.inl (.inl h1),h2⟩
theorem dI {H:Hp} {F:av->Prop} (i:Int):Rel K H F (.int i) (.int i):=by unfold Rel;rfl
theorem kv (i:Bool):Rel K H F (.bl i) (.bl i):=by unfold Rel;rfl
theorem hV {H:Hp} {F:av->Prop} (i:Str):Rel K H F (.str i) (.str i):=by unfold Rel;rfl
theorem xY:Rel K H F .non .non:=by unfold Rel;rfl
theorem Ok.laid {σ:L2.St} {G:Gh} {H:Hp} {F:av->Prop} {δ:Loc} {p:av} (ok:Ok K G F σ H δ) (hp:H p = none) (o:HO):Ok K G F σ (upd H p o) δ/\Step G F H F (upd H p o)/\Sim H (upd H p o)/\¬ F p :=
 ⟨ok.same' (bV hp o),Step.of_same (bV hp o),.of (bV hp o),ok.fd.none hp⟩
theorem iD {σ:L2.St} {G:Gh} {H:Hp} {F:av->Prop} {δ:Loc} {p:av} {ds:List D} {xs:List V} (ok:Ok K G F σ H δ) (hp:H p = none) (r:aG K H F ds xs):Rel K (upd H p (.tup xs)) F (.tup ds) (.ref p):=by
 unfold Rel;exact ⟨p,xs,rfl,SqT.of bP,aG.step (G:=G) ok.fd (Step.of_same (bV hp _)) ds xs r⟩
theorem lI {σ:L2.St} {G:Gh} {H:Hp} {F:av->Prop} {δ:Loc} {p:av} {ds:List D} {xs:List V} (ok:Ok K G F σ H δ) (hp:H p = none) (r:aG K H F ds xs):Rel K (upd H p (.lst xs)) F (.lst ds) (.ref p):=by
 unfold Rel;exact ⟨p,xs,rfl,.inl ⟨.inl bP,(ok.laid hp (.lst xs)).2.2.2⟩,aG.step (G:=G) ok.fd (Step.of_same (bV hp _)) ds xs r⟩
theorem FT {a b:E} {y z:aE} {op:Op} {o:xC} {pos:Pos} (ho:Ms op o = true) (pc:(!bL a || np b) = true) (ha:PE X y (tE X.K cx a)) (hb:PE X z (tE X.K cx b)):PE X (.BinOp y o z pos) (tE X.K cx (.bin op a b)):=by
 intro pins s σ H Q I h;obtain ⟨G,F,δ,d,δ',ok,ev,post⟩:=h;simp only [evE,ag,ae] at ev;obtain ⟨⟨x,δ1⟩,ea,⟨y',δ2⟩,eb,d',hd,e⟩:=ev;cases e;dsimp only at eb hd post;have fin:∀ v H2 F2,Step G F H F2 H2->((np a && np b) = true->Sim H H2)->Ok X.K G F2 σ H2 δ2->Rel X.K H2 F2 d v->Q v H2:=fun v H2 F2 st sm ok2 r=>post v H2 F2 st sm ok2 r;cases op<;>cases o<;>first | (exact absurd ho aq) | skip
 . refine uW (JS.or (wL.or (GD.or (GG.or GF)))) ha hb pins s σ H Q I (two ok ea eb pc fun v u H2 F2 st sm ok2 r1 r2=>?_);change KZ x y' = some d at hd;unfold KZ at hd;split at hd
   . cases hd;have e1:=r1.b.int;have e2:=r2.b.int;subst e1;subst e2;exact .inl ⟨_,_,rfl,rfl,fin _ _ _ st sm ok2 (dI _)⟩
   . split at hd
     . cases hd;have e1:=r1.b.str;have e2:=r2.b.str;subst e1;subst e2;exact .inr (.inl ⟨_,_,rfl,rfl,‹_›,fin _ _ _ st sm ok2 (hV _)⟩)
     . cases hd
   . cases hd;obtain ⟨p1,xs1,e1,s1,l1⟩:=r1.b.tup;obtain ⟨p2,xs2,e2,s2,l2⟩:=r2.b.tup;subst e1;subst e2;unfold aG at l1;subst l1;refine .inr (.inr (.inr (.inl ⟨p1,p2,xs2,rfl,rfl,s1,s2,fin _ _ _ st sm ok2 ?_⟩)));unfold Rel;exact ⟨p2,xs2,rfl,s2,l2⟩
   . split at hd
     . rename_i q;cases hd;obtain ⟨p1,xs1,e1,s1,l1⟩:=r1.b.tup;obtain ⟨p2,xs2,e2,s2,l2⟩:=r2.b.tup;subst e1;subst e2;refine .inr (.inr (.inl ⟨p1,p2,xs1,xs2,rfl,rfl,s1,s2,fun z=>?_,by rw [l1.length,l2.length];exact q,fun z=>?_,fun _ p hp=>?_⟩))
       . have:=l1.length;rw [z] at this;cases this
       . refine fin _ _ _ st sm ok2 ?_;have e:∀ {ys:List D},aG X.K H2 F2 ys xs2->ys = []:=fun {ys} r=>by have:=r.length;rw [z] at this;exact dh.mp this.symm
         have:=e l2;subst this;rw [bS];unfold Rel;exact ⟨p1,xs1,rfl,s1,l1⟩
       . obtain ⟨o1,o2,o3,o4⟩:=ok2.laid hp (.tup (xs1++xs2));exact fin _ _ _ (st.trans o2) (fun z=>(sm z).trans o3) o1 (iD ok2 hp (l1.append l2))
     . cases hd
   . split at hd
     . rename_i q;cases hd;obtain ⟨p1,xs1,e1,s1,l1⟩:=r1.b.lst;obtain ⟨p2,xs2,e2,s2,l2⟩:=r2.b.lst;subst e1;subst e2;refine .inr (.inr (.inr (.inr ⟨p1,p2,xs1,xs2,rfl,rfl,s1,s2,by rw [l1.length,l2.length];exact q,fun p hp=>?_⟩)));obtain ⟨o1,o2,o3,o4⟩:=ok2.laid hp (.lst (xs1++xs2));exact fin _ _ _ (st.trans o2) (fun z=>(sm z).trans o3) o1 (lI ok2 hp (l1.append l2))
     . cases hd
   . cases hd
 . refine uW JM ha hb pins s σ H Q I (two ok ea eb pc fun v u H2 F2 st sm ok2 r1 r2=>?_);change IT x y' = some d at hd;unfold IT at hd;split at hd<;>first | (cases hd;done) | skip
   cases hd;have e1:=r1.b.int;have e2:=r2.b.int;subst e1;subst e2;exact ⟨_,_,rfl,rfl,fin _ _ _ st sm ok2 (dI _)⟩
 . refine uW (GC.or GB) ha hb pins s σ H Q I (two ok ea eb pc fun v u H2 F2 st sm ok2 r1 r2=>?_);change Ke x y' = some d at hd;unfold Ke at hd;split at hd<;>first | (cases hd;done) | skip
   . split at hd
     . rename_i q;cases hd;have e1:=r1.b.int;have e2:=r2.b.int;subst e1;subst e2;refine .inl ⟨_,_,rfl,rfl,?_,fin _ _ _ st sm ok2 (dI _)⟩;exact GQ q
     . cases hd
   . split at hd
     . rename_i q;cases hd;have e1:=r1.b.str;have e2:=r2.b.int;subst e1;subst e2;exact .inr ⟨_,_,rfl,rfl,q,fin _ _ _ st sm ok2 (hV _)⟩
     . cases hd
 . refine uW JO ha hb pins s σ H Q I (two ok ea eb pc fun v u H2 F2 st sm ok2 r1 r2=>?_);change Kf x y' = some d at hd;unfold Kf at hd;split at hd<;>first | (cases hd;done) | skip
   split at hd
   . rename_i q;cases hd;have e1:=r1.b.int;have e2:=r2.b.int;subst e1;subst e2;exact ⟨_,_,rfl,rfl,q,fin _ _ _ st sm ok2 (dI _)⟩
   . cases hd
 . refine uW Dm ha hb pins s σ H Q I (two ok ea eb pc fun v u H2 F2 st sm ok2 r1 r2=>?_);change Eg x y' = some d at hd;unfold Eg at hd;split at hd<;>first | (cases hd;done) | skip
   split at hd
   . rename_i q;cases hd;have e1:=r1.b.int;have e2:=r2.b.int;subst e1;subst e2;exact ⟨_,_,rfl,rfl,q,fin _ _ _ st sm ok2 (dI _)⟩
   . cases hd
end
end PP
end
section
namespace PP
open PySem L2 PySem.SeqAt PyProof.Rows PySem.W
variable [Tbs]
theorem jH (h:sortable ds = true):ds.length < 64/\(∀ x∈ds,bE x≠0/\bE x = bE (ds.getD 0 .non))/\∀ x∈ds,∀ y∈ds,∃ k,oC x y = some k:=by
 unfold sortable at h;simp only [aa,dY,decide_eq_true_eq] at h;obtain ⟨⟨h1,h2⟩,h3⟩:=h;refine ⟨h1,fun x hx=>?_,fun x hx y hy=>rR.mp (h3 x hx y hy)⟩;have:=h2 x hx;exact ⟨by simpa using this.1,by simpa using this.2⟩
theorem qW (ds:List D):(eO ds).length = ds.length:=by
 unfold eO;by_cases h:ds.length < 2
 . rw [if_pos h]
 . rw [if_neg h,ao,(gi ds.length).length_eq,oh]
theorem qv {K:PySem.W.Frag} {H:Hp} {F:av->Prop} {ds:List D} {xs:List V} (r:aG K H F ds xs):∀ (is:List Nat),(∀ i∈is,i < ds.length)->aG K H F (is.map fun i=>ds.getD i .non) (is.map fun i=>xs.getD i .non)
 | [],_=>aG.nil
 | i::is,h=>by
   have hi:=h i ay;obtain ⟨v,hv,rv⟩:=r.get (i:=i) (d:=ds.getD i .non) (by simp [hi]);have e:xs.getD i .non = v:=by simp [hv]
   rw [aU,aU,e];exact aG.cons rv (qv r is fun j hj=>h j (au _ hj))
theorem qt (r:Vals xs us):∀ (is:List Nat),(∀ i∈is,i < xs.length)->Vals (is.map fun i=>xs.getD i .non) (is.map fun i=>us.getD i cm)
 | [],_=>.nil
 | i::is,h=>by
   have hi:=h i ay;obtain ⟨u,hu,ru⟩:=r.get (i:=i) (x:=xs.getD i .non) (by simp [hi]);have e:us.getD i cm = u:=by simp [hu]
   rw [aU,aU,e];exact .cons ru (qt r is fun j hj=>h j (au _ hj))
theorem Km {M:Model} {A:ba} {E:af->ai->Prop} {s:ai} {ds:List D} {us:List af} (r:RdL s.heap ds us) (hk:∀ x∈ds,bE x≠0/\bE x = bE (ds.getD 0 .non)) (h2:2<=us.length) {Q:nV->ai->Prop}
 (q:Q (if bE (ds.getD 0 .non) < 3 then oneType' else tuples' true) s):wpAny M A (keyKind' us.toArray) Q E s:=by
 have hl:=r.length
 have all:∀ v∈us,∃ d∈ds,RdV s.heap d v:=by
  have:∀ (ds:List D) (us:List af),RdL s.heap ds us->∀ v∈us,∃ d∈ds,RdV s.heap d v:=by
   intro ds
   induction ds with
   | nil=>intro us r v hv;unfold RdL at r;subst r;cases hv
   | cons d ds ih =>
     intro us r v hv;unfold RdL at r;obtain ⟨w,ws,rfl,r1,r2⟩:=r;rcases aC.mp hv with rfl | hv
     . exact ⟨d,ay,r1⟩
     . obtain ⟨d',h1,h2⟩:=ih ws r2 v hv;exact ⟨d',au _ h1,h2⟩
  exact this ds us r
 generalize hn:bE (ds.getD 0 .non) = n at hk q
 have tups:∀ (T:af) (P:D->Prop),(∀ d,P d->∀ u,RdV s.heap d u->Looks M s.heap (typeOf u) T)->(∀ x∈ds,∃ y r,x = .tup (y::r)/\P y)->∃ fs,KatTups s.heap us fs/\fs.length = us.length/\∀ v∈fs,Looks M s.heap (typeOf v) T:=by
  intro T P hP hx
  have:∀ (ds:List D) (us:List af),RdL s.heap ds us->(∀ x∈ds,∃ y r,x = .tup (y::r)/\P y)->∃ fs,KatTups s.heap us fs/\fs.length = us.length/\∀ v∈fs,Looks M s.heap (typeOf v) T:=by
   intro ds
   induction ds with
   | nil=>intro us r _;unfold RdL at r;subst r;exact ⟨[],KatTups.nil,rfl,fun v hv=>by cases hv⟩
   | cons d ds ih =>
     intro us r hx;unfold RdL at r;obtain ⟨w,ws,rfl,r1,r2⟩:=r;obtain ⟨fs,f1,f2,f3⟩:=ih ws r2 fun x h=>hx x (au _ h);obtain ⟨y,rr,rfl,py⟩:=hx d ay;unfold RdV at r1;obtain ⟨a,its,rfl,⟨o,h1,hc,m,hd⟩,h3⟩:=r1;unfold RdL at h3;obtain ⟨f,fr,e,g1,g2⟩:=h3;refine ⟨f::fs,KatTups.cons h1 hc hd ?_ f1,by simp [f2],fun v hv=>?_⟩
     . have:its.toList[0]? = some f:=by rw [e];rfl
       simpa using this
     . rcases aC.mp hv with rfl | hv
       . exact hP y py _ g1
       . exact f3 v hv
  exact this ds us r hx
 match n,hk,q with
 | 0,hk,q =>
   obtain ⟨x,hx⟩:∃ x,x∈ds:=by
    cases ds with
    | nil=>rw [hl] at h2;simp at h2
    | cons x r=>exact ⟨x,ay⟩
   exact absurd (hk x hx).2 (hk x hx).1
 | 1,hk,q =>
   refine kas_kind (T:=.type "str") h2 (fun v hv=>?_) (by decide) (by decide) q;obtain ⟨d,hd,rd⟩:=all v hv;have:=(hk d hd).2;cases d<;>first | (simp [bE] at this;done) | skip
   . unfold RdV at rd;obtain ⟨t,rfl⟩:=rd;exact jx rfl
   . rename_i l;cases l with
     | nil=>simp [bE] at this
     | cons x r=>cases x<;>simp [bE] at this
 | 2,hk,q =>
   refine kas_kind (T:=.type "int") h2 (fun v hv=>?_) (by decide) (by decide) q;obtain ⟨d,hd,rd⟩:=all v hv;have:=(hk d hd).2;cases d<;>first | (simp [bE] at this;done) | skip
   . unfold RdV at rd;obtain ⟨t,rfl⟩:=rd;exact jx rfl
   . rename_i l;cases l with
     | nil=>simp [bE] at this
     | cons x r=>cases x<;>simp [bE] at this
 | 3,hk,q =>
   obtain ⟨fs,f1,f2,f3⟩:=tups (.type "str") (fun y=>∃ x,y = .str x) (fun d ⟨x,e⟩ u rd=>by subst e;unfold RdV at rd;obtain ⟨t,rfl⟩:=rd;exact jx rfl) fun x hx=>by
    have:=(hk x hx).2;cases x<;>first | (simp [bE] at this;done) | skip
    rename_i l;cases l with
    | nil=>simp [bE] at this
    | cons x r=>cases x<;>first | (simp [bE] at this;done) | exact ⟨_,_,rfl,_,rfl⟩
   exact kat_kind f1 (by lia) f3 (by decide) q
 | 4,hk,q =>
   obtain ⟨fs,f1,f2,f3⟩:=tups (.type "int") (fun y=>∃ x,y = .int x) (fun d ⟨x,e⟩ u rd=>by subst e;unfold RdV at rd;obtain ⟨t,rfl⟩:=rd;exact jx rfl) fun x hx=>by
    have:=(hk x hx).2;cases x<;>first | (simp [bE] at this;done) | skip
    rename_i l;cases l with
    | nil=>simp [bE] at this
    | cons x r=>cases x<;>first | (simp [bE] at this;done) | exact ⟨_,_,rfl,_,rfl⟩
   exact kat_kind f1 (by lia) f3 (by decide) q
 | m+5,hk,q =>
   obtain ⟨x,hx⟩:∃ x,x∈ds:=by
    cases ds with
    | nil=>rw [hl] at h2;simp at h2
    | cons x r=>exact ⟨x,ay⟩
   have:=(hk x hx).2;exfalso;cases x<;>first | (simp [bE] at this;done) | skip
   rename_i l;cases l with
   | nil=>simp [bE] at this
   | cons x r=>cases x<;>simp [bE] at this
theorem yM:∀ {ds:List D},(∀ x∈ds,dep x < 100000)->cN ds < 100000
 | [],_=>by unfold cN;lia
 | d::ds,h=>by
   have h1:=h d ay;have h2:=yM fun x hx=>h x (au _ hx);unfold cN
   lia
theorem sy (hs:sortable ds = true):cN ds < 100000:=by
 obtain ⟨_,_,hlt⟩:=jH hs;refine yM fun x hx=>?_;obtain ⟨b,hb⟩:=hlt x hx x hx;unfold oC at hb;split at hb
 . lia
 . cases hb
theorem MS {prog:aM} {w:bj} {A A':ba} {s:ai} {h':bJ} {ds:List D} {its:List af} (hu:A.units+200 < cLine) (hA:A'.units<=A.units+2) (rd:RdL s.heap ds its) (l3:its.length = ds.length) (hs:sortable ds = true)
 (k:∀ b o,s.heap.get? b = some o->h'.get? b = some o) (i j:Nat) (hi:i < its.length) (hj:j < its.length) (C:Bool->ai->Prop) (c:C (iG ds i j) { s with heap:=h' }) :
 kas_ask prog w A' (if bE (ds.getD 0 .non) < 3 then oneType' else tuples' true) its i j C { s with heap:=h' }:=by
 obtain ⟨h64,hk,hlt⟩:=jH hs
 have mem:∀ i,i < its.length->ds.getD i .non∈ds:=fun i hi=>by
  have:i < ds.length:=by lia
  rw [jd,az this];exact ke this
 obtain ⟨b,hb⟩:=hlt _ (mem i hi) _ (mem j hj);have eb:iG ds i j = b:=by unfold iG;rw [hb];rfl
 rw [eb] at c;have ri:=RdV.keep k _ _ (RdL.nth i rd (by lia));have rj:=RdV.keep k _ _ (RdL.nth j rd (by lia));have ki:=hk _ (mem i hi);have kj:=hk _ (mem j hj);unfold oC at hb;split at hb
 . rename_i hd;unfold kas_ask;generalize ds.getD i .non = x at ri hb hd ki;generalize ds.getD j .non = y at rj hb hd kj;generalize its.getD i cm = u at ri;generalize its.getD j cm = v at rj;generalize bE (ds.getD 0 .non) = n0 at ki kj;by_cases h3:n0 < 3
   . rw [if_pos h3,keyLt'_oneType];refine HM (s:={ s with heap:=h' }) ri rj ?_ hb c;have:=ki.1;have k1:n0 = 1\/n0 = 2:=by lia
     rcases k1 with k1 | k1
     . exact .inl ⟨by lia,by lia⟩
     . exact .inr ⟨by lia,by lia⟩
   . rw [if_neg h3]
     have tx:∀ z:D,bE z = n0->∃ p r,z = .tup (p::r)/\((n0 = 3/\bE p = 1)\/(n0 = 4/\bE p = 2)):=fun z hz=>by
      cases z<;>first | (simp [bE] at hz;lia) | skip
      rename_i l
      cases l with
      | nil=>simp [bE] at hz;lia
      | cons p r=>cases p<;>first | (simp [bE] at hz;lia) | exact ⟨_,_,rfl,by simp [bE] at hz ⊢;lia⟩
     obtain ⟨p1,r1,rfl,w1⟩:=tx x ki.2;obtain ⟨p2,r2,rfl,w2⟩:=tx y kj.2;unfold RdV at ri rj;obtain ⟨a1,i1,rfl,⟨o1,g1,c1,m1,d1⟩,t1⟩:=ri;obtain ⟨a2,i2,rfl,⟨o2,g2,c2,m2,d2⟩,t2⟩:=rj;have z1:i1.size = (p1::r1).length:=by simpa using t1.length
     have z2:i2.size = (p2::r2).length:=by simpa using t2.length
     unfold ltD at hb;unfold dep at hd;refine kat_lt (s:={ s with heap:=h' }) g1 d1 g2 d2 (vg (s:={ s with heap:=h' }) (p1::r1) (p2::r2) i1.toList i2.toList 0 t1 t2 (by lia) hb (by rw [z1,z2]) (fun _ x y hx hy=>?_) c);cases hx;cases hy;rcases w1 with ⟨e,w1⟩ | ⟨e,w1⟩<;>rcases w2 with ⟨e',w2⟩ | ⟨e',w2⟩<;>first | (exact .inl ⟨w1,w2⟩) | (exact .inr ⟨w1,w2⟩) | lia
 . cases hb
theorem uc {X:Cx} (hu:X.A.units+200 < cLine):cU X (.builtin "sorted") (fun xs H Q=>∃ F ds v,xs = [v]/\dD X.K H F (.lst ds) v/\sortable ds = true/\∀ p ys,H p = none->aG X.K H F (eO ds) ys->Q (.ref p) (upd H p (.lst ys))):=by
 intro pins s σ H xs us Q I r h;obtain ⟨F,ds,v,rfl,rb,hs,q⟩:=h;obtain ⟨a,ws,rfl,hl,rl⟩:=rb.lst;obtain ⟨u,rfl,rx⟩:=vals1 r;cases rx;obtain ⟨its,n,rv,ho,hz⟩:=hl.obj I;obtain ⟨h64,hk,hlt⟩:=jH hs;have rd:=pQ I ds ws its rl rv (sy hs);have l1:=rl.length;have l2:=rv.length;have l3:its.length = ds.length:=by lia
 have isl:s.heap.IsList a its.toArray:=⟨_,ho,rfl,n,rfl⟩;have out:fS (iG ds) its = (if its.length < 2 then its else (ans (iG ds) (kas_sort its.length)).toList.map fun i=>its.getD i cm):=rfl
 have hlen:(fS (iG ds) its).length = its.length:=by
  rw [out];by_cases h:its.length < 2
  . rw [if_pos h]
  . rw [if_neg h,ao,(gi its.length).length_eq,oh]
 have small:∀ i∈(ans (iG ds) (kas_sort its.length)).toList,i < its.length:=fun i hi=>by simpa using (gi its.length).mem_iff.mp hi
 -- the values in their new places
 have hv:∃ ys,Vals ys (fS (iG ds) its)/\aG X.K H F (eO ds) ys:=by
  rw [out];unfold eO;by_cases h:its.length < 2
  . rw [if_pos h,if_pos (by lia)];exact ⟨ws,rv,rl⟩
  . rw [if_neg h,if_neg (by lia),<- l3];exact ⟨_,qt rv _ fun i hi=>by rw [l2];exact small i hi,qv rl _ fun i hi=>by rw [<- l3];exact small i hi⟩
 obtain ⟨ys,vy,ry⟩:=hv;refine zQ (lt:=iG ds) (κ:=if bE (ds.getD 0 .non) < 3 then oneType' else tuples' true) isl (by lia) hlen (fun h2 A' h' hA k C c=>?_) (fun A' h' hA k i j hi hj C c=>?_) ?_
 . exact Km (s:={ s with heap:=h' }) (RdL.keep k ds its rd) hk h2 c
 . exact MS hu hA rd l3 hs k i j hi hj C c
 . obtain ⟨e,he⟩:=sortedAll_at s.heap its (fS (iG ds) its).toArray;refine ⟨.ref (s.heap.objs.size+1),upd H (s.heap.objs.size+1) (.lst ys),I.laid (t':=s.toks) (fun b u hb=>sortedAll_old hb) (ik _) ⟨?_,_,e,vy,he⟩,rfl,q _ _ (I.hok.fresh (ik _)) ry⟩;rw [ry.length,qW,cj]
   lia
end PP
end
section
namespace PP
open PySem PySem.W PyProof.Rows
section
variable {prog:aM} {w:bj} {A:ba} {E:af->ai->Prop} {s:ai}
end
end PP
end
section
namespace PP
open PySem L2 PySem.SeqAt PyProof.Rows PySem.W
variable [Tbs]
end PP
end
section
namespace PP
open PySem L2 PyProof.Rows
variable [Tbs]
section
variable {K:PySem.W.Frag} {cx:Cl} {X:Cx}
theorem fV (r:Rel K H F d v):RelM false K H F d v:=r
noncomputable def rC (K:PySem.W.Frag) (op:Cop):R2:=fun x y H Q=>∃ F a b k,dD K H F a x/\dD K H F b y/\qo op a b = some k/\Q (.bl k) H
theorem JK (h:JL p a b = some k):∃ i j,a = .int i/\b = .int j/\k = p i j:=by
 unfold JL at h;split at h
 . cases h;exact ⟨_,_,rfl,rfl,rfl⟩
 . cases h
theorem HR (h:inD a b = some k):(∃ ds,(b = .lst ds\/b = .tup ds)/\(dep a<=150/\cN ds < 99999)/\k = ds.any fun y=>eqD y a)\/∃ x y,a = .str x/\b = .str y/\k = sT y x:=by
 unfold inD at h;split at h
 . split at h
   . cases h;exact .inl ⟨_,.inl rfl,‹_›,rfl⟩
   . cases h
 . split at h
   . cases h;exact .inl ⟨_,.inr rfl,‹_›,rfl⟩
   . cases h
 . split at h
   . cases h;exact .inr ⟨_,_,rfl,rfl,rfl⟩
   . cases h
 . cases h
theorem sO:OpR X (compareOp .NotIn) (fun x y H Q=>∃ i j,x = .str i/\y = .str j/\Q (.bl (!sT j i)) H):=by
 intro pins s σ H x y v u Q I rx ry h;obtain ⟨i,j,rfl,rfl,q⟩:=h;obtain ⟨t,rfl⟩:=rx;obtain ⟨t',rfl⟩:=ry;exact PySem.P.notIn_str ⟨.bl _,H,I,rfl,q⟩
theorem OpR.imp (h:OpR X f r) (w:∀ x y H Q,r' x y H Q->r x y H Q):OpR X f r':=fun pins s σ H x y v u Q I rx ry q=>h pins s σ H x y v u Q I rx ry (w _ _ _ _ q)
theorem ME (h:leD a b = some k):(∃ i j,a = .int i/\b = .int j/\k = decide (i<=j))\/∃ i j,a = .str i/\b = .str j/\k = !decide (j.cps.toList < i.cps.toList):=by
 unfold leD at h;split at h
 . cases h;exact .inl ⟨_,_,rfl,rfl,rfl⟩
 . cases h;exact .inr ⟨_,_,rfl,rfl,rfl⟩
 . cases h
theorem Aj:OpR X (compareOp .LtE) (fun x y H Q=>∃ i j,x = .str i/\y = .str j/\Q (.bl (!decide (j.cps.toList < i.cps.toList))) H):=by
 intro pins s σ H x y v u Q I rx ry h;obtain ⟨i,j,rfl,rfl,q⟩:=h;obtain ⟨t,rfl⟩:=rx;obtain ⟨t',rfl⟩:=ry;exact PySem.P.le_str ⟨.bl _,H,I,rfl,q⟩
theorem opC (hu:X.A.units+200 < cLine) (ho:yN op o = true):OpR X (compareOp o) (rC X.K op):=by
 cases op<;>cases o<;>first | (exact absurd ho aq) | skip
 . exact OpR.imp (JP hu) fun x y H Q ⟨F,a,b,k,ra,rb,e,q⟩=>⟨F,a,b,k,ra,rb,e,q⟩
 . refine OpR.imp (Mp.or Aj) fun x y H Q zz=>?_;obtain ⟨F,a,b,k,ra,rb,e,q⟩:=zz;rcases ME e with ⟨i,j,rfl,rfl,rfl⟩ | ⟨i,j,rfl,rfl,rfl⟩
   . exact .inl ⟨i,j,ra.int,rb.int,q⟩
   . exact .inr ⟨i,j,ra.str,rb.str,q⟩
 . refine OpR.imp Mq fun x y H Q zz=>?_;obtain ⟨F,a,b,k,ra,rb,e,q⟩:=zz;obtain ⟨i,j,rfl,rfl,rfl⟩:=JK e;exact ⟨i,j,ra.int,rb.int,q⟩
 . refine OpR.imp ((JR hu).or Mr) fun x y H Q zz=>?_;obtain ⟨F,a,b,k,ra,rb,e,q⟩:=zz;change (if gH a b = true then some (eqD a b) else if MB a b = true then some false else none) = some k at e;split at e
   . cases e;exact .inl ⟨F,a,b,ra,rb,‹_›,q⟩
   . split at e
     . rename_i hm;cases e;cases a<;>cases b<;>first | (cases hm;done) | skip
       . rw [ra.int,rb.str];exact .inr ⟨rfl,q⟩
       . rw [ra.str,rb.int];exact .inr ⟨rfl,q⟩
     . cases e
 . refine OpR.imp (JN hu) fun x y H Q zz=>?_;obtain ⟨F,a,b,k,ra,rb,e,q⟩:=zz;change (if gH a b = true then some (!eqD a b) else none) = some k at e;split at e
   . cases e;exact ⟨F,a,b,ra,rb,‹_›,q⟩
   . cases e
 . intro pins s σ H x y v u Q I rx ry h;obtain ⟨F,a,b,k,ra,rb,e,q⟩:=h;rcases HR e with ⟨ds,hb,hd,rfl⟩ | ⟨x',y',rfl,rfl,rfl⟩
   . refine JQ hu pins s σ H x y v u Q I rx ry ⟨F,a,ds,ra,?_,hd,q⟩;rcases hb with rfl | rfl
     . exact .inl rb
     . exact .inr rb
   . exact Ak pins s σ H x y v u Q I rx ry ⟨x',y',ra.str,rb.str,q⟩
 . intro pins s σ H x y v u Q I rx ry h;obtain ⟨F,a,b,k,ra,rb,e,q⟩:=h;change (inD a b).map (!·) = some k at e;rw [aI] at e;obtain ⟨k',e,rfl⟩:=e;rcases HR e with ⟨ds,hb,hd,rfl⟩ | ⟨x',y',rfl,rfl,rfl⟩
   . refine Ai hu pins s σ H x y v u Q I rx ry ⟨F,a,ds,ra,?_,hd,q⟩;rcases hb with rfl | rfl
     . exact .inl rb
     . exact .inr rb
   . exact sO pins s σ H x y v u Q I rx ry ⟨x',y',ra.str,rb.str,q⟩
theorem KG (ev:evE cx (.cmp op a b) δ = some (d,δ')):∃ x δ1 y k,evE cx a δ = some (x,δ1)/\evE cx b δ1 = some (y,δ')/\qo op x y = some k/\d = .bl k:=by
 simp only [evE,ag,ae] at ev;obtain ⟨⟨x,δ1⟩,ea,⟨y',δ2⟩,eb,k,hd,e⟩:=ev;cases e;exact ⟨x,δ1,y',k,ea,eb,hd,rfl⟩
theorem Hm (ev:evT cx (.cmp op a b) δ = some (k,δ')):∃ x δ1 y,evE cx a δ = some (x,δ1)/\evE cx b δ1 = some (y,δ')/\qo op x y = some k:=by
 simp only [evT,ag,ae] at ev;obtain ⟨⟨x,δ1⟩,ea,⟨y',δ2⟩,eb,k,hd,e⟩:=ev;cases e;exact ⟨x,δ1,y',ea,eb,hd⟩
theorem FR (hu:X.A.units+200 < cLine) (ho:yN op o = true) (pc:(!bL a || np b) = true) (ha:PE X y (tE X.K cx a)) (hb:PE X z (tE X.K cx b)) (hm:behindInMarks o z = false) :
 PE X (.Compare y [o] [z] pos) (tE X.K cx (.cmp op a b)):=by
 refine PE.imp (Gx (opC hu ho) ha hb hm) fun σ H Q h=>?_;obtain ⟨G,F,δ,d,δ',ok,ev,post⟩:=h;obtain ⟨x,δ1,y',k,ea,eb,hd,rfl⟩:=KG ev;exact two ok ea eb pc fun v u H2 F2 st sm ok2 r1 r2=>⟨F2,x,y',k,r1.b,r2.b,hd,post _ H2 F2 st sm ok2 (fV (kv k))⟩
theorem Co (hu:X.A.units+200 < cLine) (ho:yN op o = true) (pc:(!bL a || np b) = true) (ha:PE X y (tE X.K cx a)) (hb:PE X z (tE X.K cx b)) (hm:behindInMarks o z = false) :
 PT X (.Compare y [o] [z] pos) (tT X.K cx (.cmp op a b)):=by
 refine PT.imp (Gp (opC hu ho) ha hb hm) fun σ H Q h=>?_;obtain ⟨G,F,δ,k,δ',ok,ev,post⟩:=h;obtain ⟨x,δ1,y',ea,eb,hd⟩:=Hm ev;exact two ok ea eb pc fun v u H2 F2 st sm ok2 r1 r2=>⟨F2,x,y',k,r1.b,r2.b,hd,k,rfl,post H2 F2 st sm ok2⟩
theorem en (n:(!bL e) = true) (h:RelM (bL e) K H F d v):Rel K H F d v:=by
 have e1:bL e = false:=by simpa using n
 rw [e1] at h;exact h
theorem snd_and (na:(!bL a) = true) (nb:(!bL b) = true) (ha:PE X y (tE X.K cx a)) (hb:PE X (.BoolOp .And (z::r) pos) (tE X.K cx b)):PE X (.BoolOp .And (y::z::r) pos) (tE X.K cx (.and a b)):=by
 refine PE.imp (JI ha hb) fun σ H Q h=>?_;obtain ⟨G,F,δ,d,δ',ok,ev,post⟩:=h;simp only [evE,ag,ae] at ev;obtain ⟨⟨x,δ1⟩,ea,ev⟩:=ev;refine ⟨G,F,δ,x,δ1,ok,ea,fun v H1 F1 st1 sm1 ok1 r1=>?_⟩;replace r1:=en na r1;have np1:np (.and a b) = (np a && np b):=rfl
 cases x with
 | bl k =>
   unfold Rel at r1;refine ⟨k,r1,?_⟩
   cases k with
   | true =>
     rw [if_pos rfl];refine ⟨G,F1,δ1,d,δ',ok1,ev,fun u H2 F2 st2 sm2 ok2 r2=>post u H2 F2 (st1.trans st2) (fun n=>?_) ok2 (fV (en nb r2))⟩;rw [np1,aa] at n
     exact (sm1 n.1).trans (sm2 n.2)
   | false =>
     rw [if_neg aq];cases ev
     exact post _ H1 F1 st1 (fun n=>by rw [np1,aa] at n;exact sm1 n.1) ok1 (fV (kv false))
 | _=>cases ev
theorem Ce (na:(!bL a) = true) (nb:(!bL b) = true) (ha:PE X y (tE X.K cx a)) (hb:PE X (.BoolOp .Or (z::r) pos) (tE X.K cx b)):PE X (.BoolOp .Or (y::z::r) pos) (tE X.K cx (.or a b)):=by
 refine PE.imp (Mh ha hb) fun σ H Q h=>?_;obtain ⟨G,F,δ,d,δ',ok,ev,post⟩:=h;simp only [evE,ag,ae] at ev;obtain ⟨⟨x,δ1⟩,ea,ev⟩:=ev;refine ⟨G,F,δ,x,δ1,ok,ea,fun v H1 F1 st1 sm1 ok1 r1=>?_⟩;replace r1:=en na r1;have np1:np (.or a b) = (np a && np b):=rfl
 cases x with
 | bl k =>
   unfold Rel at r1;refine ⟨k,r1,?_⟩
   cases k with
   | false =>
     rw [if_neg aq];refine ⟨G,F1,δ1,d,δ',ok1,ev,fun u H2 F2 st2 sm2 ok2 r2=>post u H2 F2 (st1.trans st2) (fun n=>?_) ok2 (fV (en nb r2))⟩;rw [np1,aa] at n
     exact (sm1 n.1).trans (sm2 n.2)
   | true =>
     rw [if_pos rfl];cases ev
     exact post _ H1 F1 st1 (fun n=>by rw [np1,aa] at n;exact sm1 n.1) ok1 (fV (kv true))
 | _=>cases ev
theorem FK (na:(!bL a) = true) (ha:PE X y (tE X.K cx a)):PE X (.UnaryOp .Not y pos) (tE X.K cx (.not a)):=by
 refine PE.imp (JE ha) fun σ H Q h=>?_;obtain ⟨G,F,δ,d,δ',ok,ev,post⟩:=h;simp only [evE,ag,ae] at ev;obtain ⟨⟨x,δ1⟩,ea,ev⟩:=ev;refine ⟨G,F,δ,x,δ1,ok,ea,fun v H1 F1 st1 sm1 ok1 r1=>?_⟩;replace r1:=en na r1
 cases x with
 | bl k =>
   unfold Rel at r1;cases ev
   exact ⟨k,r1,post _ H1 F1 st1 sm1 ok1 (fV (kv _))⟩
 | _=>cases ev
theorem PT.pw (h:PT X (.BoolOp op vs pos) t):PW X (.BoolOp op vs pos) t:=fun _ pins s σ H Q I q=>h pins s σ H Q I q
theorem uJ (ha:PT X y (tT X.K cx a)) (hb:PW X (.BoolOp .And (z::r) pos) (tT X.K cx b)):PT X (.BoolOp .And (y::z::r) pos) (tT X.K cx (.and a b)):=by
 refine PT.imp (Jq ha hb).pt fun σ H Q h=>?_;obtain ⟨G,F,δ,d,δ',ok,ev,post⟩:=h;simp only [evT,ag,ae] at ev;obtain ⟨⟨k,δ1⟩,ea,ev⟩:=ev;have np1:np (.and a b) = (np a && np b):=rfl;refine ⟨G,F,δ,k,δ1,ok,ea,fun H1 F1 st1 sm1 ok1=>?_⟩
 cases k with
 | true =>
   rw [if_pos rfl];refine ⟨G,F1,δ1,d,δ',ok1,ev,fun H2 F2 st2 sm2 ok2=>post H2 F2 (st1.trans st2) (fun n=>?_) ok2⟩;rw [np1,aa] at n
   exact (sm1 n.1).trans (sm2 n.2)
 | false =>
   rw [if_neg aq];cases ev;exact post H1 F1 st1 (fun n=>by rw [np1,aa] at n;exact sm1 n.1) ok1
theorem xS (ha:PT X y (tT X.K cx a)) (hb:PW X (.BoolOp .Or (z::r) pos) (tT X.K cx b)):PT X (.BoolOp .Or (y::z::r) pos) (tT X.K cx (.or a b)):=by
 refine PT.imp (Mb ha hb).pt fun σ H Q h=>?_;obtain ⟨G,F,δ,d,δ',ok,ev,post⟩:=h;simp only [evT,ag,ae] at ev;obtain ⟨⟨k,δ1⟩,ea,ev⟩:=ev;have np1:np (.or a b) = (np a && np b):=rfl;refine ⟨G,F,δ,k,δ1,ok,ea,fun H1 F1 st1 sm1 ok1=>?_⟩
 cases k with
 | false =>
   rw [if_neg aq];refine ⟨G,F1,δ1,d,δ',ok1,ev,fun H2 F2 st2 sm2 ok2=>post H2 F2 (st1.trans st2) (fun n=>?_) ok2⟩;rw [np1,aa] at n
   exact (sm1 n.1).trans (sm2 n.2)
 | true =>
   rw [if_pos rfl];cases ev;exact post H1 F1 st1 (fun n=>by rw [np1,aa] at n;exact sm1 n.1) ok1
theorem Cn (ha:PT X y (tT X.K cx a)):PT X (.UnaryOp .Not y pos) (tT X.K cx (.not a)):=by
 refine PT.imp (Jr ha) fun σ H Q h=>?_;obtain ⟨G,F,δ,d,δ',ok,ev,post⟩:=h;simp only [evT,ag,ae] at ev;obtain ⟨⟨k,δ1⟩,ea,ev⟩:=ev;cases ev;exact ⟨G,F,δ,k,δ1,ok,ea,fun H1 F1 st1 sm1 ok1=>post H1 F1 st1 sm1 ok1⟩
theorem FP (na:(!bL a) = true) (nb:(!bL b) = true) (hc:PT X t (tT X.K cx c)) (ha:PE X y (tE X.K cx a)) (hb:PE X z (tE X.K cx b)):PE X (.IfExp t y z pos) (tE X.K cx (.ite c a b)):=by
 refine PE.imp (Di hc ha hb) fun σ H Q h=>?_;obtain ⟨G,F,δ,d,δ',ok,ev,post⟩:=h;simp only [evE,ag,ae] at ev;obtain ⟨⟨k,δ1⟩,ea,ev⟩:=ev;have np1:np (.ite c a b) = (np c && np a && np b):=rfl;refine ⟨G,F,δ,k,δ1,ok,ea,fun H1 F1 st1 sm1 ok1=>?_⟩
 cases k with
 | true =>
   rw [if_pos rfl];refine ⟨G,F1,δ1,d,δ',ok1,ev,fun u H2 F2 st2 sm2 ok2 r2=>post u H2 F2 (st1.trans st2) (fun n=>?_) ok2 (fV (en na r2))⟩;rw [np1,aa,aa] at n
   exact (sm1 n.1.1).trans (sm2 n.1.2)
 | false =>
   rw [if_neg aq];refine ⟨G,F1,δ1,d,δ',ok1,ev,fun u H2 F2 st2 sm2 ok2 r2=>post u H2 F2 (st1.trans st2) (fun n=>?_) ok2 (fV (en nb r2))⟩;rw [np1,aa,aa] at n;exact (sm1 n.1.1).trans (sm2 n.2)
theorem Ok.look (ok:Ok K G F σ H δ) (e:get δ i = some d):∃ v,σ[i]? = some (some v)/\dD K H F d v/\∃ F',Step G F H F' H/\Ok K G F' σ H (PP.demote δ i)/\Rel K H F' d v:=by
 unfold get at e
 cases q:δ[i]? with
 | none=>rw [q] at e;cases e
 | some s =>
   rw [q] at e
   cases s with
   | no=>cases e
   | fnc _ _=>cases e
   | val d' =>
     cases e;obtain ⟨v,e1,r⟩:=ok.sl i _ q;refine ⟨v,e1,.inl r,F,Step.refl,?_,r⟩
     unfold PP.demote;rw [q];exact ok
   | own ds =>
     cases e;obtain ⟨a,xs,e1,h1,h2,h3,h4⟩:=ok.sl i _ q;obtain ⟨o1,o2⟩:=ok.demote (d:=.lst ds) q rfl e1;refine ⟨.ref a,e1,.inr ⟨a,xs,ds,rfl,rfl,h3,h4⟩,fun b=>F b/\b≠a,⟨fun _ _ _ z _=>z,fun b z=>.inl z.1,fun b o r z e=>⟨⟨z,fun w=>h2.2 (by rw [<- w];exact r)⟩,e⟩,fun _ ps e=>⟨ps,e⟩⟩,?_,o2⟩;unfold PP.demote;rw [q];exact o1
theorem Ok.lookV (ok:Ok K G F σ H δ) (e:Eb δ i = some d):∃ v,σ[i]? = some (some v)/\∃ F',Step G F H F' H/\Ok K G F' σ H (PP.demote δ i)/\Rel K H F' d v:=by
 obtain ⟨v,e1,_,h⟩:=ok.look (by unfold Eb at e;exact e);exact ⟨v,e1,h⟩
theorem FF (hN:X.N[i]? = some x) (hv:Vis X.env.scope x) (hd:(x == ("__debug__":Str)) = false) (hcd:(x == ("__classdict__":Str)) = false):PE X (.Name x pos) (tE X.K cx (.var i)):=by
 refine PE.imp (jK hN hv hd hcd) fun σ H Q h=>?_;obtain ⟨G,F,δ,d,δ',ok,ev,post⟩:=h;simp only [evE,ag,ae] at ev;obtain ⟨d',e1,e⟩:=ev;cases e;obtain ⟨v,ev,F',st,ok',r⟩:=ok.lookV e1;exact ⟨v,ev,post v H F' st (fun _=>Sim.refl H) ok' (fV r)⟩
theorem IX (hN:X.N[i]? = some x) (hv:Vis X.env.scope x) (hd:(x == ("__debug__":Str)) = false) (hcd:(x == ("__classdict__":Str)) = false):PE X (.Name x pos) (tE X.K cx (.pk i)):=by
 refine PE.imp (jK hN hv hd hcd) fun σ H Q h=>?_;obtain ⟨G,F,δ,d,δ',ok,ev,post⟩:=h;simp only [evE,ag,ae] at ev;obtain ⟨d',e1,e⟩:=ev;cases e;obtain ⟨v,ev,rb,_⟩:=ok.look e1;exact ⟨v,ev,post v H F Step.refl (fun _=>Sim.refl H) ok rb⟩
theorem wt (r:dD K H F d v) (e:tv d = some k):La K v H k:=by
 cases d with
 | non=>cases e;rcases r with r | ⟨_,_,_,z,_⟩;(unfold Rel at r;subst r;rfl);cases z
 | bl b=>cases e;have:=r.bl;subst this;rfl
 | int i=>cases e;have:=r.int;subst this;rfl
 | str x =>
   change (if x.length<=sizeLine then some ((x.length:Int) != 0) else none) = some k at e;split at e
   . cases e;have:=r.str;subst this;exact ⟨‹_›,rfl⟩
   . cases e
 | lst ds =>
   cases e;obtain ⟨a,xs,rfl,h1,h2⟩:=r.lst;refine .inl ⟨xs,h1.sq,?_⟩;have:=h2.length
   cases ds<;>cases xs<;>first | rfl | (simp at this)
 | tup ds =>
   cases e;obtain ⟨a,xs,rfl,h1,h2⟩:=r.tup;refine .inr (.inl ⟨xs,h1,?_⟩);have:=h2.length
   cases ds<;>cases xs<;>first | rfl | (simp at this)
 | fn _ _=>cases e
theorem uI (he:e = .var i\/e = .pk i) (hN:X.N[i]? = some x) (hv:Vis X.env.scope x) (hd:(x == ("__debug__":Str)) = false) (hcd:(x == ("__classdict__":Str)) = false):PT X (.Name x pos) (tT X.K cx e):=by
 refine PT.imp (pS (jK hN hv hd hcd) fun _=>rfl) fun σ H Q h=>?_;obtain ⟨G,F,δ,k,δ',ok,ev,post⟩:=h
 have ev':∃ d,get δ i = some d/\tv d = some k/\δ = δ':=by
  rcases he with rfl | rfl
  . simp only [evT,ag,ae] at ev;obtain ⟨d,e1,k',e2,e⟩:=ev;cases e;exact ⟨d,e1,e2,rfl⟩
  . simp only [evT,ag,ae] at ev;obtain ⟨d,e1,k',e2,e⟩:=ev;cases e;exact ⟨d,e1,e2,rfl⟩
 obtain ⟨d,e1,e2,rfl⟩:=ev';obtain ⟨v,ev,rb,_⟩:=ok.look e1;exact ⟨v,ev,k,wt rb e2,post H F Step.refl (fun _=>Sim.refl H) ok⟩
theorem FQ:PE X (.Constant (.int i) j pos) (tE X.K cx (.int i)) :=
 PE.imp JG fun σ H Q ⟨G,F,δ,d,δ',ok,ev,post⟩=>by cases ev;exact post _ H F Step.refl (fun _=>Sim.refl H) ok (fV (dI i))
theorem Ja:PE X (.Constant (.bool i) j pos) (tE X.K cx (.bl i)) :=
 PE.imp Ml fun σ H Q ⟨G,F,δ,d,δ',ok,ev,post⟩=>by cases ev;exact post _ H F Step.refl (fun _=>Sim.refl H) ok (fV (kv i))
theorem FH:PE X (.Constant (.str i) j pos) (tE X.K cx (.str i)) :=
 PE.imp JC fun σ H Q ⟨G,F,δ,d,δ',ok,ev,post⟩=>by cases ev;exact post _ H F Step.refl (fun _=>Sim.refl H) ok (fV (hV i))
theorem FL:PE X (.Constant .none j pos) (tE X.K cx .non) :=
 PE.imp JF fun σ H Q ⟨G,F,δ,d,δ',ok,ev,post⟩=>by cases ev;exact post _ H F Step.refl (fun _=>Sim.refl H) ok (fV xY)
theorem Cg (hg:Gl X x) (hm:X.mg x = some u) (r:RelV v u) (hr:∀ d,cx.gl[g]? = some d->∀ H F,Rel X.K H F d v) (hd:(x == ("__debug__":Str)) = false):PE X (.Name x pos) (tE X.K cx (.glob g)):=by
 refine PE.imp (Gw hg hm r hd) fun σ H Q h=>?_;obtain ⟨G,F,δ,d,δ',ok,ev,post⟩:=h;simp only [evE,ag,ae] at ev;obtain ⟨d',e1,e⟩:=ev;cases e;exact post v H F Step.refl (fun _=>Sim.refl H) ok (fV (hr d e1 H F))
theorem FN (n:(!bL a) = true) (ha:PE X y (tE X.K cx a)):PE X (.UnaryOp .USub y pos) (tE X.K cx (.neg a)):=by
 refine PE.imp (Mg IL ha) fun σ H Q h=>?_;obtain ⟨G,F,δ,d,δ',ok,ev,post⟩:=h;simp only [evE,ag,ae] at ev;obtain ⟨⟨x,δ1⟩,ea,ev⟩:=ev
 cases x with
 | int i =>
   cases ev;refine ⟨G,F,δ,_,_,ok,ea,fun v H1 F1 st sm ok1 r=>?_⟩;have:=r.b.int;subst this
   exact ⟨i,rfl,post _ H1 F1 st sm ok1 (fV (dI _))⟩
 | _=>cases ev
end
section
variable {K:PySem.W.Frag} {cx:Cl} {X:Cx}
theorem sC:PA X [] (tEs X.K cx .nil):=by
 refine fun pos pins s σ H Q I h=>pX pos pins s σ H Q I ?_;obtain ⟨G,F,δ,ds,δ',ok,ev,post⟩:=h;simp only [fW] at ev;cases ev;exact post [] H F Step.refl (fun _=>Sim.refl H) ok ⟨rfl,rfl⟩
theorem pN (pc:(!bL a || npS es) = true) (ha:PE X y (tE X.K cx a)) (hr:PA X ys (tEs X.K cx es)) (hs:starEach (y::ys) X.env = (false,eval y X.env)::starEach ys X.env):PA X (y::ys) (tEs X.K cx (.cons a es)):=by
 refine fun pos pins s σ H Q I h=>jL ha hr hs pos pins s σ H Q I ?_;obtain ⟨G,F,δ,ds,δ',ok,ev,post⟩:=h;simp only [fW,ag,ae] at ev;obtain ⟨⟨x,δ1⟩,ea,⟨ds',δ2⟩,eb,e⟩:=ev;cases e;refine ⟨G,F,δ,x,δ1,ok,ea,fun v H1 F1 st1 sm1 ok1 r1=>⟨G,F1,δ1,ds',δ2,ok1,eb,fun vs H2 F2 st2 sm2 ok2 r2=>?_⟩⟩;refine post (v::vs) H2 F2 (st1.trans st2) (fun z=>?_) ok2 ⟨x,ds',v,vs,rfl,rfl,RelM.step ok1.fd st2 (fun z=>sm2 (by rw [z] at pc;simpa using pc)) r1,r2⟩;have z':(np a && npS es) = true:=z;rw [aa] at z';exact (sm1 z'.1).trans (sm2 z'.2)
theorem mQ.rl:∀ {es:Es} {ds:List D} {vs:List V},gL es = true->mQ K H F es ds vs->aG K H F ds vs
 | .nil,ds,vs,_,h=>by obtain ⟨rfl,rfl⟩:=h;exact aG.nil
 | .cons e es,ds,vs,n,h=>by
   obtain ⟨d,ds',v,vs',rfl,rfl,h1,h2⟩:=h;have n':(!bL e && gL es) = true:=n;rw [aa] at n';exact aG.cons (en n'.1 h1) (mQ.rl n'.2 h2)
noncomputable def yY (K:PySem.W.Frag) (H:Hp) (F:av->Prop):List D->List V->Prop
 | [],vs=>vs = []
 | d::ds,vs=>∃ v vs',vs = v::vs'/\dD K H F d v/\yY K H F ds vs'
theorem mQ.bl:∀ {es:Es} {ds:List D} {vs:List V},mQ K H F es ds vs->yY K H F ds vs
 | .nil,ds,vs,h=>by obtain ⟨rfl,rfl⟩:=h;rfl
 | .cons e es,ds,vs,h=>by
   obtain ⟨d,ds',v,vs',rfl,rfl,h1,h2⟩:=h;exact ⟨v,vs',rfl,h1.b,mQ.bl h2⟩
theorem yJ {f:List D->Option D} {es:Es} {δ δ':Loc} {d:D} (ev:(do let (ds,δ1) <- fW cx es δ;return (<- f ds,δ1)) = some (d,δ')):∃ ds,fW cx es δ = some (ds,δ')/\f ds = some d:=by
 simp only [ag,ae] at ev;obtain ⟨⟨ds,δ1⟩,ea,d',hd,e⟩:=ev;cases e;exact ⟨ds,ea,hd⟩
theorem FG (n:gL es = true) (h:PA X xs (tEs X.K cx es)):PE X (.Tuple xs k pos) (tE X.K cx (.tup es)):=by
 refine PE.imp (JB h) fun σ H Q h=>?_;obtain ⟨G,F,δ,d,δ',ok,ev,post⟩:=h;simp only [evE,ag,ae] at ev;obtain ⟨⟨ds,δ1⟩,ea,ev⟩:=ev;split at ev
 . rename_i hz;cases ev;refine ⟨G,F,δ,ds,δ1,ok,ea,fun vs H1 F1 st1 sm1 ok1 r1=>?_⟩;have r:=r1.rl n;refine ⟨by rw [r.length];exact hz,fun p hp=>?_⟩;obtain ⟨o1,o2,o3,o4⟩:=ok1.laid hp (.tup vs);exact post _ _ _ (st1.trans o2) (fun z=>(sm1 z).trans o3) o1 (fV (iD ok1 hp r))
 . cases ev
theorem FO (n:gL es = true) (h:PA X xs (tEs X.K cx es)):PE X (.List xs pos) (tE X.K cx (.lst es)):=by
 refine PE.imp (Dg h) fun σ H Q h=>?_;obtain ⟨G,F,δ,d,δ',ok,ev,post⟩:=h;simp only [evE,ag,ae] at ev;obtain ⟨⟨ds,δ1⟩,ea,ev⟩:=ev;split at ev
 . rename_i hz;cases ev;refine ⟨G,F,δ,ds,δ1,ok,ea,fun vs H1 F1 st1 sm1 ok1 r1=>?_⟩;have r:=r1.rl n;refine ⟨by rw [r.length];exact hz,fun p hp=>?_⟩;obtain ⟨o1,o2,o3,o4⟩:=ok1.laid hp (.lst vs);exact post _ _ _ (st1.trans o2) (fun z=>(sm1 z).trans o3) o1 (fV (lI ok1 hp r))
 . cases ev
theorem aG.at {H:Hp} {F:av->Prop} {ds:List D} {xs:List V} {i:Int} {d:D} (h:aG K H F ds xs) (e:atI ds i = some d):∃ v,atI xs i = some v/\Rel K H F d v:=by
 unfold atI at e ⊢;rw [h.length]
 cases q:ixN ds.length i with
 | none=>rw [q] at e;cases e
 | some j =>
   rw [q] at e;exact h.get e
theorem IY (pc:(!bL a || np b) = true) (ha:PE X y (tE X.K cx a)) (hb:PE X z (tE X.K cx b)) (hp:PlainIx z):PE X (.Subscript y z pos) (tE X.K cx (.ix a b)):=by
 refine PE.imp (Mj Kt ha hb hp) fun σ H Q h=>?_;obtain ⟨G,F,δ,d,δ',ok,ev,post⟩:=h;simp only [evE,ag,ae] at ev;obtain ⟨⟨x,δ1⟩,ea,⟨y',δ2⟩,eb,d',hd,e⟩:=ev;cases e;dsimp only at eb hd post;refine two ok ea eb pc fun v u H2 F2 st sm ok2 r1 r2=>?_;unfold ixD at hd;split at hd
 . have e2:=r2.b.int;obtain ⟨p,xs,e1,h1,h2⟩:=r1.b.lst;obtain ⟨w,hw,rw'⟩:=h2.at hd;exact .inl ⟨p,xs,_,w,e1,e2,h1.sq,hw,post _ _ _ st sm ok2 (fV rw')⟩
 . have e2:=r2.b.int;obtain ⟨p,xs,e1,h1,h2⟩:=r1.b.tup;obtain ⟨w,hw,rw'⟩:=h2.at hd;exact .inr (.inl ⟨p,xs,_,w,e1,e2,h1,hw,post _ _ _ st sm ok2 (fV rw')⟩)
 . have e2:=r2.b.int;have e1:=r1.b.str;split at hd
   . rename_i hz;rw [aI] at hd;obtain ⟨c,hc,rfl⟩:=hd;exact .inr (.inr ⟨_,_,c,e1,e2,hz,hc,post _ _ _ st sm ok2 (fV (hV _))⟩)
   . cases hd
 . cases hd
theorem HF (h:∀ e,o = .yes e->∃ y,l = some y/\(!bL e) = true/\PE X y (tE X.K cx e)) (hn:o = .no->l = none):PO X l (tO X.K cx o):=by
 cases o with
 | no =>
   rw [hn rfl];intro pins s σ H Q I q;refine Gu pins s σ H Q I ?_;obtain ⟨G,F,δ,d,δ',ok,ev,post⟩:=q;simp only [evO] at ev;cases ev
   exact post H F Step.refl (fun _=>Sim.refl H) ok
 | yes e =>
   obtain ⟨y,rfl,n,hy⟩:=h e rfl;intro pins s σ H Q I q;refine Gr hy pins s σ H Q I ?_;obtain ⟨G,F,δ,d,δ',ok,ev,post⟩:=q;simp only [evO,ag,ae] at ev;obtain ⟨⟨x,δ1⟩,ea,ev⟩:=ev
   cases x with
   | int i =>
     cases ev
     exact ⟨G,F,δ,.int i,δ',ok,ea,fun v H1 F1 st1 sm1 ok1 r1=>⟨i,by have:=en n r1;unfold Rel at this;exact this,post H1 F1 st1 sm1 ok1⟩⟩
   | _=>cases ev
theorem IW {a:E} {lo hi:Eo} {y:aE} {l h:Option aE} {pos p2:Pos} (pc:(!bL a || (npO lo && npO hi)) = true) (ha:PE X y (tE X.K cx a)) (hl:PO X l (tO X.K cx lo)) (hh:PO X h (tO X.K cx hi)):PE X (.Subscript y (.Slice l h none p2) pos) (tE X.K cx (.sl a lo hi)):=by
 refine PE.imp (uV (xT.or (Jc.or Jd)) ha hl hh) fun σ H Q h=>?_;obtain ⟨G,F,δ,d,δ',ok,ev,post⟩:=h;simp only [evE,ag,ae] at ev;obtain ⟨⟨x,δ1⟩,ea,⟨l',δ2⟩,eb,⟨h',δ3⟩,ec,d',hd,e⟩:=ev;cases e;dsimp only at eb ec hd post;refine ⟨G,F,δ,x,δ1,ok,ea,fun v H1 F1 st1 sm1 ok1 r1=>⟨G,F1,δ1,l',δ2,ok1,eb,fun H2 F2 st2 sm2 ok2=>⟨G,F2,δ2,h',δ3,ok2,ec,fun H3 F3 st3 sm3 ok3=>?_⟩⟩⟩;have st:=st2.trans st3
 have rb:dD X.K H3 F3 x v:=by
  refine (RelM.step ok1.fd st (fun z=>?_) r1).b;rw [z] at pc;have pc':(npO lo && npO hi) = true:=by simpa using pc
  rw [aa] at pc';exact (sm2 pc'.1).trans (sm3 pc'.2)
 have fin:∀ w H4,iO H3 H4->Ok X.K G F3 σ H4 δ3->Rel X.K H4 F3 d w->Q w H4:=fun w H4 s4 o4 r4=>post w H4 F3 ((st1.trans st).trans (Step.of_same s4)) (fun z=>by
  have z':(np a && npO lo && npO hi) = true:=z;rw [aa,aa] at z';exact (((sm1 z'.1.1).trans (sm2 z'.1.2)).trans (sm3 z'.2)).trans (.of s4)) o4 (fV r4)
 unfold slD at hd;split at hd
 . cases hd;obtain ⟨p,xs,e1,h1,h2⟩:=rb.lst;refine .inl ⟨p,xs,e1,h1.sq,fun q hq=>?_⟩;obtain ⟨o1,o2,o3,o4⟩:=ok3.laid hq (.lst (qH xs l' h'));exact fin _ _ (bV hq _) o1 (lI ok3 hq (h2.cut l' h'))
 . split at hd
   . cases hd
   . rename_i hw;cases hd;obtain ⟨p,xs,e1,h1,h2⟩:=rb.tup;refine .inr (.inl ⟨p,xs,e1,h1,by rw [h2.length];exact hw,fun q hq=>?_⟩);obtain ⟨o1,o2,o3,o4⟩:=ok3.laid hq (.tup (qH xs l' h'));exact fin _ _ (bV hq _) o1 (iD ok3 hq (h2.cut l' h'))
 . split at hd
   . cases hd;have e1:=rb.str;subst e1;exact .inr (.inr ⟨_,rfl,‹_›,fin _ _ (fun b o e=>e) ok3 (hV _)⟩)
   . cases hd
 . cases hd
noncomputable def spF (K:PySem.W.Frag) (f:List D->Option D):Sp:=fun vs H Q _=>∃ F ds d,FD F H/\TF F/\gU H/\aG K H F ds vs/\f ds = some d/\∀ v H',Sim H H'->gU H'->Rel K H' F d v->Q v H'
theorem Cj {f:Nat} {es:Es} {x:Str} {y:aE} {ys:List aE} {k:Nat} {a:av} {fd:dW} {ps:List Str} {p pos:Pos} (n:gL es = true) (fn:lq X.prog X.w X.K X.mg X.base CX0 k a fd ps (spF X.K (cx.call f))) (hr:km k X.A) (hg:Gl X x)
 (hm:X.mg x = some (.ref a)) (hk:PySem.W.keepIn X.K (.ref a) = true) (hb:Binds X.K fd ps []) (hA:PA X (y::ys) (tEs X.K cx es)) (hd:(x == ("__debug__":Str)) = false) (he:starEach (y::ys) X.env = (false,eval y X.env)::starEach ys X.env) (hpl:(backTo pos (starEach ys X.env)).any (·.1) = false) :
 PE X (.Call (.Name x p) (y::ys) [] pos) (tE X.K cx (.call f es)):=by
 refine PE.imp (ym fn hr hg hm hk hb .nil (Dj) hA hd he hpl) fun σ H Q h=>?_;obtain ⟨G,F,δ,d,δ',ok,ev,post⟩:=h;simp only [evE] at ev;obtain ⟨ds,ea,hd⟩:=yJ ev;refine ⟨G,F,δ,ds,δ',ok,ea,fun vs H1 F1 st1 sm1 ok1 r1=>?_⟩;show spF X.K (cx.call f) (vs++[]) H1 Q E0;rw [bS];exact ⟨F1,ds,d,ok1.fd,ok1.tf,ok1.tabs,r1.rl n,hd,fun v H2 s2 t2 r2=>post v H2 F1 (st1.trans (ok1.call s2 t2).2) (fun z=>(sm1 z).trans s2) (ok1.call s2 t2).1 (fV r2)⟩
theorem oP {e:E} {x:aE} {es:Es} {f:List D->Option D} (hE:PE X x (tE X.K cx e)) (he:∀ whole,isTrue x X.env whole = (do let v <- whole;standAt x.pos;holding [v] (truthy v))) (n:bL e = false)
 (e1:∀ δ,evE cx e δ = (do let (ds,δ1) <- fW cx es δ;return (<- f ds,δ1))) (e2:∀ δ,evT cx e δ = (do let (ds,δ1) <- fW cx es δ;let d <- f ds;return (<- tv d,δ1))):PT X x (tT X.K cx e):=by
 refine PT.imp (pS hE he) fun σ H Q h=>?_;obtain ⟨G,F,δ,k,δ',ok,ev,post⟩:=h;rw [e2] at ev;simp only [ag,ae] at ev;obtain ⟨⟨ds,δ1⟩,ea,d,hd,k',hk,e⟩:=ev;cases e;refine ⟨G,F,δ,d,δ1,ok,?_,fun v H1 F1 st1 sm1 ok1 r1=>⟨k,wt r1.b hk,post H1 F1 st1 sm1 ok1⟩⟩;rw [e1];simp only [ag,ae];exact ⟨(ds,δ1),ea,d,hd,rfl⟩
theorem Cm (hE:PE X x (tE X.K cx e)) (he:∀ whole,isTrue x X.env whole = (do let v <- whole;standAt x.pos;holding [v] (truthy v))) (e2:∀ δ k δ',evT cx e δ = some (k,δ')->∃ d,evE cx e δ = some (d,δ')/\tv d = some k):PT X x (tT X.K cx e) :=
 PT.imp (pS hE he) fun σ H Q ⟨G,F,δ,k,δ',ok,ev,post⟩=>let ⟨d,e1,e3⟩:=e2 _ _ _ ev;⟨G,F,δ,d,δ',ok,e1,fun v H1 F1 st1 sm1 ok1 r1=>⟨k,wt r1.b e3,post H1 F1 st1 sm1 ok1⟩⟩
noncomputable def rB (K:PySem.W.Frag) (f:List D->Option D):List V->Hp->VK->Prop:=fun xs H Q=>∃ F ds d,FD F H/\yY K H F ds xs/\f ds = some d/\∀ v H',iO H H'->Rel K H' F d v->Q v H'
theorem cU.imp {f:af} {r r':List V->Hp->VK->Prop} (h:cU X f r) (w:∀ xs H Q,r' xs H Q->r xs H Q):cU X f r':=fun pins s σ H xs us Q I rv q=>h pins s σ H xs us Q I rv (w _ _ _ q)
theorem b1 (h:yY K H F [d] xs):∃ v,xs = [v]/\dD K H F d v:=by
 obtain ⟨v,vs,rfl,h1,h2⟩:=h;cases h2;exact ⟨v,rfl,h1⟩
theorem rz (fd:FD F H) (hp:H p = none):¬ F p:=fd.none hp
theorem KN:cU X (.builtin "len") (rB X.K GS):=by
 refine cU.imp (ue.or ud) fun xs H Q zz=>?_;obtain ⟨F,ds,d,fd,r,e,q⟩:=zz;unfold GS at e;split at e
 . split at e
   . cases e;obtain ⟨v,rfl,rv⟩:=b1 r;exact .inr ⟨_,by rw [rv.str],‹_›,q _ _ (iO.refl H) (dI _)⟩
   . cases e
 . cases e;obtain ⟨v,rfl,rv⟩:=b1 r;obtain ⟨a,ys,rfl,h1,h2⟩:=rv.lst;exact .inl ⟨a,ys,rfl,.inl h1.sq,by rw [h2.length];exact q _ _ (iO.refl H) (dI _)⟩
 . cases e;obtain ⟨v,rfl,rv⟩:=b1 r;obtain ⟨a,ys,rfl,h1,h2⟩:=rv.tup;exact .inl ⟨a,ys,rfl,.inr h1,by rw [h2.length];exact q _ _ (iO.refl H) (dI _)⟩
 . cases e
theorem AF:cU X (.type "int") (fun xs H Q=>∃ x n,xs = [.str x]/\PySem.intText? x = some n/\x.length<=640/\Q (.int n) H):=by
 intro pins s σ H xs us Q I rv h;obtain ⟨x,n,rfl,h1,h2,q⟩:=h;obtain ⟨u,rfl,ru⟩:=rv.one;obtain ⟨t,rfl⟩:=ru;exact PySem.W.KIN.call_text h1 h2 ⟨.int n,H,I.tok _,⟨_,rfl⟩,q⟩
theorem KO:cU X (.type "int") (rB X.K pH):=by
 refine cU.imp (AG.or AF) fun xs H Q zz=>?_;obtain ⟨F,ds,d,fd,r,e,q⟩:=zz;unfold pH at e;split at e
 . cases e;obtain ⟨v,rfl,r1⟩:=b1 r;exact .inl (.inl ⟨_,by rw [r1.int],q _ _ (iO.refl H) (dI _)⟩)
 . cases e;obtain ⟨v,rfl,r1⟩:=b1 r;exact .inl (.inr ⟨_,by rw [r1.bl],q _ _ (iO.refl H) (dI _)⟩)
 . split at e
   . rw [aI] at e;obtain ⟨n,e1,rfl⟩:=e;obtain ⟨v,rfl,r1⟩:=b1 r;exact .inr ⟨_,n,by rw [r1.str],e1,‹_›,q _ _ (iO.refl H) (dI _)⟩
   . cases e
 . cases e
theorem KJ:cU X (.type "str") (rB X.K su):=by
 refine cU.imp ua fun xs H Q zz=>?_;obtain ⟨F,ds,d,fd,r,e,q⟩:=zz;unfold su at e;split at e
 . split at e
   . cases e;obtain ⟨v,rfl,r1⟩:=b1 r;exact ⟨_,by rw [r1.int],‹_›,q _ _ (iO.refl H) (hV _)⟩
   . cases e
 . cases e
theorem uG (h:iO H H'):Step g0 F H F H':=Step.of_same h
theorem KI:cU X (.type "tuple") (rB X.K sr):=by
 refine cU.imp qJ fun xs H Q zz=>?_;obtain ⟨F,ds,d,fd,r,e,q⟩:=zz;unfold sr at e;split at e
 . cases e;obtain ⟨v,rfl,r1⟩:=b1 r;obtain ⟨a,ys,rfl,h1,h2⟩:=r1.lst;refine ⟨a,ys,rfl,.inl ⟨h1.sq,fun l hl=>q _ _ (bV hl _) ?_⟩⟩;unfold Rel;exact ⟨l,ys,rfl,SqT.of bP,aG.step fd (uG (bV hl _)) _ _ h2⟩
 . cases e;obtain ⟨v,rfl,r1⟩:=b1 r;obtain ⟨a,ys,rfl,h1,h2⟩:=r1.tup;refine ⟨a,ys,rfl,.inr ⟨h1,q _ _ (iO.refl H) ?_⟩⟩;unfold Rel;exact ⟨a,ys,rfl,h1,h2⟩
 . cases e
theorem KL:cU X (.type "list") (rB X.K nh):=by
 refine cU.imp mM fun xs H Q zz=>?_;obtain ⟨F,ds,d,fd,r,e,q⟩:=zz;unfold nh at e;split at e
 . cases e;obtain ⟨v,rfl,r1⟩:=b1 r;obtain ⟨a,ys,rfl,h1,h2⟩:=r1.lst;refine ⟨a,ys,rfl,.inl h1.sq,fun l hl=>q _ _ (bV hl _) ?_⟩;unfold Rel;exact ⟨l,ys,rfl,.inl ⟨.inl bP,rz fd hl⟩,aG.step fd (uG (bV hl _)) _ _ h2⟩
 . cases e;obtain ⟨v,rfl,r1⟩:=b1 r;obtain ⟨a,ys,rfl,h1,h2⟩:=r1.tup;refine ⟨a,ys,rfl,.inr h1,fun l hl=>q _ _ (bV hl _) ?_⟩;unfold Rel;exact ⟨l,ys,rfl,.inl ⟨.inl bP,rz fd hl⟩,aG.step fd (uG (bV hl _)) _ _ h2⟩
 . cases e
theorem qp:∀ {ds:List D} {ns:List Bool} {xs:List V},lS ds = some ns->aG K H F ds xs->xs = ns.map V.bl
 | [],ns,xs,e,r=>by cases e;unfold aG at r;exact r
 | d::ds,ns,xs,e,r=>by
   unfold aG at r;obtain ⟨y,ys,rfl,h1,h2⟩:=r
   cases d with
   | bl i =>
     unfold lS at e;rw [aI] at e;obtain ⟨ms,e,rfl⟩:=e;unfold Rel at h1
     rw [h1,qp e h2,aU]
   | _=>cases e
theorem KP (hc:X.calm = true):cU X (.builtin "any") (rB X.K Hr):=by
 refine cU.imp (AH hc) fun xs H Q zz=>?_;obtain ⟨F,ds,d,fd,r,e,q⟩:=zz;unfold Hr at e;split at e
 . rw [aI] at e;obtain ⟨ns,e,rfl⟩:=e;obtain ⟨v,rfl,r1⟩:=b1 r;obtain ⟨a,ys,rfl,h1,h2⟩:=r1.lst;rw [qp e h2] at h1;exact ⟨a,ns,rfl,h1.sq,q _ _ (iO.refl H) (kv _)⟩
 . cases e
theorem AD (hu:X.A.units+200 < cLine):cU X (.builtin "sorted") (rB X.K oO):=by
 refine cU.imp (uc hu) fun xs H Q zz=>?_;obtain ⟨F,ds,d,fd,r,e,q⟩:=zz;unfold oO at e;split at e
 . split at e
   . rename_i zs hs;cases e;obtain ⟨v,rfl,r1⟩:=b1 r;refine ⟨F,zs,v,rfl,r1,hs,fun p ys hp ry=>q _ _ (bV hp _) ?_⟩;unfold Rel;exact ⟨p,ys,rfl,.inl ⟨.inl bP,rz fd hp⟩,aG.step fd (uG (bV hp _)) _ _ ry⟩
   . cases e
 . cases e
theorem jI {f:Blt} {es:Es} {x:Str} {p pos:Pos} {xs:List aE} (g:List D->Option D) (hg:kF f = g) (h:PE X (.Call (.Name x p) xs [] pos) (tCB (rB X.K g) (tEs X.K cx es))):PE X (.Call (.Name x p) xs [] pos) (tE X.K cx (.blt f es)):=by
 subst hg;refine PE.imp h fun σ H Q h=>?_;obtain ⟨G,F,δ,d,δ',ok,ev,post⟩:=h;simp only [evE] at ev;obtain ⟨ds,ea,hd⟩:=yJ ev;refine ⟨G,F,δ,ds,δ',ok,ea,fun vs H1 F1 st1 sm1 ok1 r1=>?_⟩;exact ⟨F1,ds,d,ok1.fd,r1.bl,hd,fun v H2 s2 r2=>post v H2 F1 (st1.trans (Step.of_same s2)) (fun z=>(sm1 z).trans (.of s2)) (ok1.same' s2) (fV r2)⟩
end
end PP
end
section
namespace HT
open PySem PySem.Spec PyProof.Rows
section
variable {prog:aM} {w:bj} {A:ba} {E:af->ai->Prop} {s:ai}
theorem nu {sl:av} {k:Tok} {n:Nat} {Q:Int × Int × Nat->ai->Prop} (hs:s.heap.IsSliceOf sl .none .none (.int (-1) k)) (h:Q ((n:Int) - 1,-1,n) s):wpAny (model prog w) A (eC (.ref sl) (pure (n:Int))) Q E s:=by
 obtain ⟨os,hos,hcs,hds⟩:=id hs;unfold eC mW;refine ab (ab (bU hos hds (x:=.none) rfl (ab (bU hos hds (x:=.none) rfl (ab (bU hos hds (x:=.int (-1) k) rfl (aw ?_)))))));refine ab (slicePart_int ?_);show wpAny _ _ (if ((-1:Int) == 0) = true then _ else _) _ _ s;rw [if_neg (by decide)];refine ab (nU (ab (nU (ab (aw ?_)))));show wpAny _ _ (pure ((n:Int) - 1,(-1:Int),bW ((n:Int) - 1) (-1) (-1))) _ _ s
 have e:bW ((n:Int) - 1) (-1) (-1) = n:=by
  unfold bW;rw [if_neg (by decide)];by_cases h:(n:Int) - 1 > -1
  . rw [if_pos h]
    have:((n:Int) - 1 - -1 - 1) / (- -1) = (n:Int) - 1:=by
     rw [show (- -1:Int) = 1 from rfl,Int.ediv_one];lia
    rw [this];lia
  . rw [if_neg h];lia
 rw [e];exact aw h
theorem rh (l:List af):∀ n:Nat,n<=l.length->((bC n).filterMap fun m=>l[l.length - 1 - m]?) = (l.drop (l.length - n)).reverse
 | 0,_=>by simp
 | n+1,h=>by
   have hk:l.length - 1 - n < l.length:=by lia
   rw [HC,kZ,rh l n (by lia),show l.length - (n+1) = l.length - 1 - n by lia,fL hk,show l.length - 1 - n+1 = l.length - n by lia,gh];simp [hk]
theorem CZ (xs:Array af):((bC xs.size).filterMap fun (m:Nat)=>xs[(((xs.size:Nat):Int) - 1+(m:Int) * (-1)).toNat]?) = xs.toList.reverse:=by
 have h:∀ k:Nat,k<=xs.size->((bC k).filterMap fun (m:Nat)=>xs[(((xs.size:Nat):Int) - 1+(m:Int) * (-1)).toNat]?) = (bC k).filterMap fun m=>xs.toList[xs.toList.length - 1 - m]? := fun k=>by
  induction k with
  | zero=>intro _;rfl
  | succ k ih =>
    intro hk;have:(((xs.size:Nat):Int) - 1+(k:Int) * (-1)).toNat = xs.toList.length - 1 - k:=by rw [bp];lia
    rw [HC,kZ,kZ,ih (by lia)];simp only [cn,mV,this,Array.getElem?_toList]
 rw [h _ (aB _),<- bp,rh _ _ (aB _),xD,List.drop_zero]
theorem getItem_tuple_rev {t sl:av} {items:Array af} {k:Tok} {Q:af->ai->Prop} (ht:Bb s.heap t items) (hs:s.heap.IsSliceOf sl .none .none (.int (-1) k))
 (h:Q (.ref s.heap.objs.size) { s with heap:=s.heap.push { cls:=.type "tuple",data:=.seq items.toList.reverse.toArray } }) (hsz:items.size<=sizeLine):wpAny (model prog w) A (getItem (.ref t) (.ref sl)) Q E s:=by
 have htake:sizeOk (.seq items.toList.reverse.toArray):=by
  show items.toList.reverse.toArray.size<=sizeLine;rw [aD,AR,bp];exact hsz
 obtain ⟨os,hos,hcs,hds⟩:=id hs;have hTs:s.TypeIs (.ref sl) "slice":=⟨os,hos,hcs⟩;unfold getItem
 try with_reducible refine cE ?_
 first | refine ab (aw ?_) | skip
 refine ab (Lj ht.typeIs (by decide) ?_)
 refine ab (cb (name:=eN "__getitem__") ht.typeIs dr
  (bM dr ht.typeIs HY ?_ (Lg _ _)))
 show wpAny _ _ (mS (.ref t) >>= _) _ _ s;refine ab (tupleItemsOf_ ht ?_);refine ab (qK hTs ?_);rw [if_pos (by decide)];refine ab (nu hs ?_);have hno:¬ (((items.size:Int) - 1 == 0 && (-1:Int) == 1 && items.size == items.size) = true):=by simp
 show wpAny _ _ (if ((items.size:Int) - 1 == 0 && (-1:Int) == 1 && items.size == items.size) = true then _ else _) _ _ s;rw [if_neg hno,CZ]
 first
  | exact ab (m:=bN _) (aR (aw ⟨_,rfl,aw h⟩) htake)
  | exact ab (m:=bN _) (aR (ab (aw (aw ⟨_,rfl,aw h⟩))) htake)
  | exact ab (ab (m:=bN _) (aR (aw (aw ⟨_,rfl,aw h⟩)) htake))
  | exact ab (ab (m:=bN _) (aR (aw ⟨_,rfl,aw h⟩) htake))
end
end HT
namespace L2
open PySem PySem.Spec PyProof.Rows
section
variable {X:Cx} {e:aE} {st:Option aE} {te:TE} {ts:TO} {pos p2:Pos}
noncomputable def tRv (K:PySem.W.Frag) (te:TE) (ts:TO):TE:=fun σ H Q=>te σ H fun x H1=>ts σ H1 fun o H2=>o = some (-1)/\∃ a xs,x = .ref a/\SqT K H2 a xs/\∀ p,H2 p = none->Q (.ref p) (upd H2 p (.tup xs.reverse))
theorem Vals.rev (r:Vals xs us):Vals xs.reverse us.reverse:=by
 induction r with
 | nil=>exact .nil
 | cons h t ih=>rw [gh,gh];exact ih.append (.cons h .nil)
theorem JD (he:PE X e te) (hs:PO X st ts):PE X (.Subscript e (.Slice none none st p2) pos) (tRv X.K te ts):=by
 intro pins s σ H Q I h;refine Lh (thn (he pins s σ H _ I h) fun v s1 z=>?_);obtain ⟨x,H1,I1,r1,q1⟩:=z;refine wpAny_Slice ?_;rw [AK];refine aw (aw (thn (hs pins s1 σ H1 _ I1 q1) fun vi s3 z=>?_));obtain ⟨i,H3,I3,ri,rfl,a,xs,rfl,hx,q⟩:=z
 cases ri with
 | int _ k =>
   cases r1;have I4:Inv X pins σ H3 { s3 with heap:=s3.heap.push { cls:=.type "slice",data:=.fields #[.none,.none,.int (-1) k] } }:=I3.kept (t':=s3.toks) fun b ob q=>ah _ q;obtain ⟨its,r,ht,hz⟩:=I4.tuple hx
   have hg:wpAny (model X.prog X.w) X.A (getItem (.ref a) (.ref s3.heap.objs.size)) (EP X pins σ Q) X.xe { s3 with heap:=s3.heap.push { cls:=.type "slice",data:=.fields #[.none,.none,.int (-1) k] } }:=by
    refine HT.getItem_tuple_rev (k:=k) ht (qC ..) ?_ (by rw [aD,<- r.length];exact hz);refine ⟨.ref _,_,I4.laid (t':=s3.toks) (o:=.tup xs.reverse) (fun b ob q=>ah _ q) (aB _) ?_,rfl,q _ (I4.hok.fresh (aB _))⟩;exact ⟨by rw [AR];exact hz,_,r.rev,oK _ _⟩
   cases st with
   | none=>exact Hu (ops:=[.ref s3.heap.objs.size,.ref a]) ht.typeIs PyProof.Rows.slot_tuple_getitem.lookup hg (by with_unfolding_all rfl)
   | some e=>exact Hu (ops:=[.ref a,.ref s3.heap.objs.size]) ht.typeIs PyProof.Rows.slot_tuple_getitem.lookup hg (by with_unfolding_all rfl)
end
end L2
namespace PP
open PySem L2 PyProof.Rows
variable [Tbs]
section
variable {K:PySem.W.Frag} {cx:Cl} {X:Cx}
theorem aG.rev:∀ {ds:List D} {xs:List V},aG K H F ds xs->aG K H F ds.reverse xs.reverse
 | [],xs,h=>by unfold aG at h;subst h;exact aG.nil
 | d::ds,xs,h=>by
   unfold aG at h;obtain ⟨y,ys,rfl,h1,h2⟩:=h;rw [gh,gh];exact (aG.rev h2).append (aG.one h1)
theorem FI {a:E} {s:Eo} {y:aE} {t:Option aE} {pos p2:Pos} (n:(!bL a) = true) (ha:PE X y (tE X.K cx a)) (hs:PO X t (tO X.K cx s)):PE X (.Subscript y (.Slice none none t p2) pos) (tE X.K cx (.rvt a s)):=by
 refine PE.imp (JD ha hs) fun σ H Q h=>?_;obtain ⟨G,F,δ,d,δ',ok,ev,post⟩:=h;simp only [evE,ag,ae] at ev;obtain ⟨⟨x,δ1⟩,ea,⟨o,δ2⟩,eb,ev⟩:=ev
 cases x with
 | tup ds =>
   dsimp only at eb ev;split at ev
   . rename_i ho;cases ev;refine ⟨G,F,δ,_,δ1,ok,ea,fun v H1 F1 st1 sm1 ok1 r1=>⟨G,F1,δ1,o,_,ok1,eb,fun H2 F2 st2 sm2 ok2=>⟨ho,?_⟩⟩⟩;have r:=Rel.step ok1.fd st2 _ _ (en n r1);unfold Rel at r;obtain ⟨p,xs,e1,h1,h2⟩:=r;refine ⟨p,xs,e1,h1,fun q hq=>?_⟩;obtain ⟨o1,_⟩:=ok2.laid hq (.tup xs.reverse)
     exact post _ _ F2 ((st1.trans st2).trans (Step.of_same (bV hq _))) (fun z=>by
      have z':(np a && npO s) = true:=z;rw [aa] at z';exact ((sm1 z'.1).trans (sm2 z'.2)).trans (.of (bV hq _))) o1 (fV (iD ok2 hq h2.rev))
   . cases ev
 | _=>cases ev
end
end PP
end
section
namespace PP
open PySem L2 PyProof.Rows
variable [Tbs]
section
variable {K:PySem.W.Frag} {cx:Cl} {X:Cx}
theorem IZ (hT:tyName f = some T) (ht:t = (T:Str)) (hg:Gl X "isinstance") (hm:X.mg "isinstance" = none) (hgt:Gl X t) (hmt:X.mg t = none) (hy:PE X y (tE X.K cx e)) (hs:starEach [y,.Name t tp] X.env = [(false,eval y X.env),(false,eval (.Name t tp) X.env)]) :
 PE X (.Call (.Name "isinstance" p) [y,.Name t tp] [] pos) (tE X.K cx (.blt f (.cons e .nil))):=by
 have hb:bootBuiltins t = some (.type T):=by
  subst ht;cases f<;>simp [tyName] at hT<;>subst hT<;>rfl
 have hn:t≠"__name__":=by
  subst ht;cases f<;>simp [tyName] at hT<;>subst hT<;>decide +kernel
 have hdb:(t == ("__debug__":Str)) = false:=by
  subst ht;cases f<;>simp [tyName] at hT<;>subst hT<;>decide +kernel
 have hA:PA X [y,.Name t tp] (xN (tE X.K cx e) (xN (tC (.ty T)) IS)):=jL hy (jL (Gy hgt hmt hb rfl hn hdb) pX rfl) hs;refine PE.imp (ky (Ez hT) hg hm rfl hA (by decide +kernel) (by decide +kernel) hs rfl) fun σ H Q h=>?_;obtain ⟨G,F,δ,d,δ',ok,ev,post⟩:=h;simp only [evE] at ev;obtain ⟨ds,ea,hd⟩:=yJ ev;simp only [fW,ag,ae] at ea;obtain ⟨⟨x,δ1⟩,ea,⟨ds',δ2⟩,eb,e2⟩:=ea;cases eb;cases e2
 obtain ⟨b,rfl⟩:∃ b,d = .bl b:=by
  cases f<;>simp [tyName] at hT<;>(cases x<;>simp [kF,ia] at hd<;>exact ⟨_,hd.symm⟩)
 refine ⟨G,F,δ,x,δ1,ok,ea,fun v H1 F1 st1 sm1 ok1 r1=>?_⟩;exact ⟨F1,x,v,b,r1.b,rfl,hd,post _ H1 F1 st1 (fun z=>sm1 (by have z':(np e && true) = true:=z;simpa using z')) ok1 (fV (kv b))⟩
noncomputable def Jo:V->List V->Hp->VK->Prop:=fun x vs H Q=>∃ t:Str,x = .str t/\vs = []/\Q (.bl (decide (t.length > 0) && t.cps.all cX)) H
theorem DE:MtR X "str.isdigit" Jo:=by
 intro pins s σ H x xs v us Q I rx rv h;obtain ⟨y,rfl,rfl,q⟩:=h;obtain ⟨t,rfl⟩:=rx;cases rv;exact call_gives F.slot_str_isdigit (xx s y t) F.entry_str_isdigit (F.args_str_isdigit_1 _) (gives_str_isdigit y t) ⟨.bl _,H,I,rfl,q⟩
theorem zS (hN:X.N[i]? = some x) (hv:Vis X.env.scope x) (hd:(x == ("__debug__":Str)) = false) (hcd:(x == ("__classdict__":Str)) = false) (hl:ap.endLine = cp.line) :
 PE X (.Call (.Attribute (.Name x pos) "isdigit" ap) [] [] cp) (tE X.K cx (.isdig i)):=by
 refine PE.imp (JH PySem.F.plainAttrs_str PySem.F.slot_str_isdigit PySem.F.type_str_isdigit DE (jK hN hv hd hcd) rfl (by simpa using hl)) fun σ H Q h=>?_;obtain ⟨G,F,δ,d,δ',ok,ev,post⟩:=h;simp only [evE,ag,ae] at ev;obtain ⟨z,e1,ev⟩:=ev
 cases z with
 | str y =>
   cases ev;unfold PP.get at e1;split at e1
   . rename_i d0 q0;cases e1;obtain ⟨v,e2,r⟩:=ok.sl i _ q0;unfold Rel at r;subst r;exact ⟨_,e2,rfl,y,rfl,rfl,post _ H F Step.refl (fun _=>Sim.refl H) ok (fV (kv _))⟩
   . cases e1
   . cases e1
 | _=>cases ev
theorem Fg (fd:FD F H) (h1:Ls K H F a xs) (h3:aG K H F ds xs):Wk K G F H (Itl K a) ds:=by
 intro F2 H2 st fd2 i;have h4:=(h1.step st).sq;have h5:=aG.step fd st ds xs h3;refine ⟨fun d e=>?_,fun e=>⟨xs,h4,by rw [h5.length];lia⟩⟩;obtain ⟨v,hv,rv⟩:=h5.get e;refine ⟨⟨xs,v,h4,hv⟩,fun x H3 y=>?_⟩;obtain ⟨e3,y⟩:=y;refine ⟨e3,?_⟩;have:=y xs h4;rw [hv] at this;cases this;exact rv
theorem Ic (fd:FD F H) (h1:SqT K H a xs) (h3:aG K H F ds xs):Wk K G F H (Itt K a) ds:=by
 intro F2 H2 st fd2 i;have h4:=uH fd st.keep h1;have h5:=aG.step fd st ds xs h3;refine ⟨fun d e=>?_,fun e=>⟨xs,h4,by rw [h5.length];lia⟩⟩;obtain ⟨v,hv,rv⟩:=h5.get e;refine ⟨⟨xs,v,h4,hv⟩,fun x H3 y=>?_⟩;obtain ⟨e3,y⟩:=y;refine ⟨e3,?_⟩;have:=y xs h4;rw [hv] at this;cases this;exact rv
theorem Ie:Wk K G F H (Its x) (x.cps.toList.map fun c=>D.str ⟨#[c]⟩):=by
 intro F2 H2 st fd2 i;refine ⟨fun d e=>?_,fun e=>by show i = x.cps.size;simpa using e⟩;rw [bG,aI] at e;obtain ⟨c,hc,rfl⟩:=e;have hc':x.cps[i]? = some c:=by simpa using hc
 refine ⟨(Array.getElem?_eq_some_iff.mp hc').1,fun v H3 y=>?_⟩;obtain ⟨e3,c',h1,h2⟩:=y;refine ⟨e3,?_⟩;rw [hc'] at h1;cases h1;rw [h2];exact hV _
theorem Ih {G:Gh} {H:Hp} {F:av->Prop} {lo:Int} {n:Nat}:Wk K G F H (Itr lo n) (sH lo n):=by
 intro F2 H2 st fd2 i;unfold sH;refine ⟨fun d e=>?_,fun e=>by rw [e];simp;exact aB n⟩;rw [bG,aI] at e;obtain ⟨c,hc,rfl⟩:=e;have hl:i < n:=by have:=(aH.mp hc).1;simpa using this
 rw [List.getElem?_range hl] at hc;cases hc;refine ⟨hl,fun v H3 y=>?_⟩;obtain ⟨e3,h2⟩:=y;exact ⟨e3,by rw [h2];exact dI _⟩
noncomputable def NK (K:PySem.W.Frag) (tl:TE):TI:=fun σ H R=>tl σ H fun v H1=>(∃ a,v = .ref a/\(∃ xs,SqL K H1 a xs)/\R (Itl K a) H1)\/(∃ a,v = .ref a/\(∃ xs,SqT K H1 a xs)/\R (Itt K a) H1)\/∃ x,v = .str x/\R (Its x) H1
theorem Jx (hl:PE X l tl):PI X tg l (NK X.K tl):=by
 intro pins s σ H R I h
 have key:∀ {v:af} {s1:ai} {x:V} {H1:Hp},Inv X pins σ H1 s1->RelV x v->((∃ a,x = .ref a/\(∃ xs,SqL X.K H1 a xs)/\R (Itl X.K a) H1)\/(∃ a,x = .ref a/\(∃ xs,SqT X.K H1 a xs)/\R (Itt X.K a) H1)\/∃ y,x = .str y/\R (Its y) H1) ->
  wpAny (model X.prog X.w) X.A (pyIter v) (PIE X pins σ tg R) X.xe s1:=by
  intro v s1 x H1 I1 r1 q1;rcases q1 with ⟨a,rfl,⟨xs,hq⟩,q⟩ | ⟨a,rfl,⟨xs,hq⟩,q⟩ | ⟨z,rfl,q⟩
  . cases r1;obtain ⟨its,rv,p,hz⟩:=I1.list hq;refine qM p.isList ?_;refine ⟨s1.heap.objs.size,[s1.heap.objs.size],_,_,H1,rfl,I1.kept (t':=s1.toks) fun b o e=>ah _ e,zL a _,⟨_,aF _ rfl,rfl,rfl⟩,fun b hb=>?_,q⟩;have e:b = s1.heap.objs.size:=by simpa using hb
    subst e;exact I1.fpOk (aB _) (I1.hok.fresh (aB _))
  . cases r1;obtain ⟨its,rv,p,hz⟩:=I1.tuple hq;refine Ld (show s1.heap.IsTuple a its.toArray from p) ?_;refine ⟨s1.heap.objs.size,[s1.heap.objs.size],_,_,H1,rfl,I1.kept (t':=s1.toks) fun b o e=>ah _ e,wj a _,⟨_,aF _ rfl,rfl,rfl⟩,fun b hb=>?_,q⟩;have e:b = s1.heap.objs.size:=by simpa using hb
    subst e;exact I1.fpOk (aB _) (I1.hok.fresh (aB _))
  . obtain ⟨t,rfl⟩:=r1;refine wpAny_pyIter_strU ?_;refine ⟨s1.heap.objs.size,[s1.heap.objs.size],_,_,H1,rfl,I1.kept (t':=s1.toks) fun b o e=>ah _ e,BU s1.heap.objs.size z t,⟨_,aF _ rfl,rfl,rfl⟩,fun b hb=>?_,q⟩;have e:b = s1.heap.objs.size:=by simpa using hb
    subst e;exact I1.fpOk (aB _) (I1.hok.fresh (aB _))
 exact thn (hl pins s σ H _ I h) fun v s1 ⟨x,H1,I1,r1,q1⟩=>key I1 r1 q1
theorem PI.imp (h:PI X tg l t) (w:∀ σ H R,t' σ H R->t σ H R):PI X tg l t':=fun pins s σ H R I q=>h pins s σ H R I (w σ H R q)
theorem IV (n:(!bL e) = true) (hl:PE X l (tE X.K cx e)):PI X tg l (tI X.K cx (.sq e)):=by
 refine PI.imp (Jx hl) fun σ H R h=>?_;obtain ⟨G,F,δ,ds,δ',ok,ev,post⟩:=h;simp only [evI,ag,ae] at ev;obtain ⟨⟨d,δ1⟩,ea,ds',hd,e2⟩:=ev;cases e2;dsimp only at hd post;refine ⟨G,F,δ,d,δ1,ok,ea,fun v H1 F1 st1 sm1 ok1 r1=>?_⟩;have r:=en n r1;unfold items at hd;split at hd
 . cases hd;unfold Rel at r;obtain ⟨a,xs,e1,h1,h3⟩:=r;exact .inl ⟨a,e1,⟨xs,h1.sq⟩,post _ _ _ st1 sm1 ok1 (fun _=>Fg ok1.fd h1 h3)⟩
 . cases hd;unfold Rel at r;obtain ⟨a,xs,e1,h1,h3⟩:=r;exact .inr (.inl ⟨a,e1,⟨xs,h1⟩,post _ _ _ st1 sm1 ok1 (fun _=>Ic ok1.fd h1 h3)⟩)
 . split at hd
   . cases hd;unfold Rel at r;exact .inr (.inr ⟨_,r,post _ _ _ st1 sm1 ok1 fun _=>Ie⟩)
   . cases hd
 . cases hd
theorem FJ (n:(!bL e) = true) (hg:Gl X "range") (hm:X.mg "range" = none) (hy:PE X y (tE X.K cx e)) (hs:starEach [y] X.env = [(false,eval y X.env)]):PI X tg (.Call (.Name "range" p) [y] [] pos) (tI X.K cx (.rng e)):=by
 refine PI.imp (Ae hg hm (jL hy pX hs) hs) fun σ H R h=>?_;obtain ⟨G,F,δ,ds,δ',ok,ev,post⟩:=h;simp only [evI,ag,ae] at ev;obtain ⟨⟨d,δ1⟩,ea,ev⟩:=ev
 cases d with
 | int j =>
   dsimp only at ev;split at ev
   . rename_i hj;cases ev;refine ⟨G,F,δ,.int j,_,ok,ea,fun v H1 F1 st1 sm1 ok1 r1=>?_⟩;have r:=en n r1;unfold Rel at r;subst r;exact ⟨j,rfl,hj.1,hj.2,post _ _ _ st1 sm1 ok1 fun _=>Ih⟩
   . cases ev
 | _=>cases ev
end
end PP
end
section
namespace PP
open PySem L2 PyProof.Rows Builtin.Str
variable [Tbs]
section
variable {X:Cx} {cx:Cl}
end
end PP
end
section
namespace PP
open PySem L2 PyProof.Rows
variable [Tbs]
section
variable {X:Cx} {cx:Cl}
noncomputable def GdK (w:bj) (K:PySem.W.Frag) (a:av) (D:List (Str × Int)):Prop :=
 KTD.tabLook KTD.flatLooks (fun b=>K.lookup b) a (D.map fun p=>(p.1,PyData.int p.2)) = true/\(D.map (·.1)).Nodup/\KTD.hashesOf (fun b=>K.lookup b) a = D.map fun p=>hashStr w p.1
end
noncomputable def zP (K:PySem.W.Frag) (f:List D->Option D):Sp:=fun vs H Q _=>∃ F ds ws k cs a d,FD F H/\TF F/\gU H/\vs = ws++[.ref a]/\aG K H F ds ws/\FnV H k cs a/\f (ds++[.fn k cs]) = some d/\∀ v H',Sim H H'->gU H'->Rel K H' F d v->Q v H'
noncomputable def spO (K:PySem.W.Frag) (f:List D->Option D):Sp:=fun vs H Q _=>∃ F ds zs,FD F H/\TF F/\gU H/\aG K H F ds vs/\f ds = some zs/\∀ a u H',Sim H H'->gU H'->H a = none->H' a = some u->gX K H' (fun b=>F b\/b = a) zs u->Q (.ref a) H'
noncomputable def Hs (P:aM) (w:bj) (K:PySem.W.Frag) (mg:Str->Option af) (base:bJ) (n k:Nat) (f:List D->Option D):Prop :=
 ∀ (A:ba) (outer:List Env) (s:ai) (H:Hp) (a:av) (us:List af) (vs:List V) (cs:List D) (Q:VK),km n A->ug P w K mg base A outer s H->Vals vs us->FnV H k cs a ->
  (∃ F ds d,FD F H/\TF F/\gU H/\aG K H F ds vs/\lfL ds = true/\f (ds++cs) = some d/\lf d = true/\∀ v H',Sim H H'->gU H'->Rel K H' F d v->Q v H') ->
  codeAny (model P w) A (.call (.ref a) ⟨us,[]⟩) (CR CX0 outer P w H s Q E0) s
structure Cok (X:Cx) (c:Ck) (cx:Cl) (k:Nat):Prop where
 hN:X.N = c.N
 nd:c.N.Nodup
 vis:∀ x,Vis c.sc x->Vis X.env.scope x
 gl:∀ x,c.sc.names.lookup x = some .globalImplicit->Gl X x
 st:∀ x,L2.Loc c.sc x->L2.Loc X.env.scope x/\(X.fn x = true\/X.env.scope.names.lookup x = some .local)
 kc:∀ x,(c.sc.names.lookup x = some .cell\/c.sc.names.lookup x = some .free)->X.env.kindOf x = some .cell\/X.env.kindOf x = some .free
 calm:X.calm = true
 xe:X.xe = fun _ _=>False
 room:km k X.A
 fns:∀ (f:Nat) (x:Str) (ps:List Str),c.fns[f]? = some (x,ps)->∃ a fd,X.mg x = some (.ref a)/\PySem.W.keepIn X.K (.ref a) = true/\Binds X.K fd ps []/\lq X.prog X.w X.K X.mg X.base CX0 k a fd ps (spF X.K (cx.call f))
 fnF:∀ (f:Nat) (x:Str) (ps:List Str),c.fns[f]? = some (x,ps)->cx.hf f = true->∃ a fd,X.mg x = some (.ref a)/\PySem.W.keepIn X.K (.ref a) = true/\Binds X.K fd ps []/\lq X.prog X.w X.K X.mg X.base CX0 k a fd ps (zP X.K (cx.call f))
 fnO:∀ (f:Nat) (x:Str) (ps:List Str),c.fns[f]? = some (x,ps)->∃ a fd,X.mg x = some (.ref a)/\PySem.W.keepIn X.K (.ref a) = true/\Binds X.K fd ps []/\lq X.prog X.w X.K X.mg X.base CX0 k a fd ps (spO X.K (cx.call (f+sN)))
 lam:∀ (n:Nat) (cs:List D) (H:Hp) (a:av),FnV H n cs a->Hs X.prog X.w X.K X.mg X.base k n (cx.call n)
 blt:∀ x,x∈jw->X.mg x = none
 glob:∀ (g:Nat) (x:Str) (d:D),c.gn[g]? = some x->cx.gl[g]? = some d->∃ u v,X.mg x = some u/\RelV v u/\∀ H F,Rel X.K H F d v
 gsome:∀ (g:Nat) (x:Str),c.gn[g]? = some x->∃ d,cx.gl[g]? = some d
 gds:∀ (n:Str) (l:List (Str × Int)),Tbs.gds.lookup n = some l->∃ a,X.mg n = some (.ref a)/\GdK X.w X.K a l
 pos:k = 0->∀ f ds,cx.call f ds = none
theorem BP (h:zI sc x = true):Vis sc x:=by
 unfold zI at h;split at h
 . exact .inl ‹_›
 . exact .inr (.inl ‹_›)
 . exact .inr (.inr ‹_›)
 . cases h
theorem DM (h:Kj sc x = true):L2.Loc sc x:=by
 unfold Kj at h;split at h
 . exact .inl ‹_›
 . exact .inr ‹_›
 . cases h
theorem Kx (h:glB sc x = true):sc.names.lookup x = some .globalImplicit:=by
 unfold glB at h;split at h
 . assumption
 . cases h
theorem yu (h:DD x = true):(x == ("__debug__":Str)) = false/\(x == ("__classdict__":Str)) = false/\x≠("__name__":Str):=by
 unfold DD at h;rw [aa,aa] at h;refine ⟨by simpa using h.1.1,by simpa using h.1.2,?_⟩;have:=h.2;intro z;subst z
 revert this
 decide +kernel
section
variable {X:Cx} {c:Ck} {cx:Cl} {k:Nat}
theorem Cok.name (C:Cok X c cx k) (h:eZ c i x = true):X.N[i]? = some x/\Vis X.env.scope x/\(x == ("__debug__":Str)) = false/\(x == ("__classdict__":Str)) = false:=by
 unfold eZ at h;rw [aa,aa] at h;obtain ⟨⟨h1,h2⟩,h3⟩:=h;obtain ⟨n1,n2,n3⟩:=yu h3;exact ⟨by rw [C.hN];exact of_decide_eq_true h1,C.vis x (BP h2),n1,n2⟩
theorem Cok.to (C:Cok X c cx k) (h:jM c i x = true):X.N[i]? = some x/\L2.Loc X.env.scope x/\(X.fn x = true\/X.env.scope.names.lookup x = some .local):=by
 unfold jM at h;rw [aa,aa] at h;obtain ⟨⟨h1,h2⟩,h3⟩:=h;obtain ⟨s1,s2⟩:=C.st x (DM h2);exact ⟨by rw [C.hN];exact of_decide_eq_true h1,s1,s2⟩
theorem Cok.global (C:Cok X c cx k) (h:fA c x = true):Gl X x/\(x == ("__debug__":Str)) = false/\x≠("__name__":Str):=by
 unfold fA at h;rw [aa] at h;obtain ⟨n1,n2,n3⟩:=yu h.2;exact ⟨C.gl x (Kx h.1),n1,n3⟩
theorem Cok.units (C:Cok X c cx k):X.A.units+200 < cLine:=by have:=C.room.un;lia
theorem Cok.nd' (C:Cok X c cx k):X.N.Nodup:=by rw [C.hN];exact C.nd
noncomputable def tK:List Nat->TGs
 | []=>MJ
 | i::is=>HS (vm i) (tK is)
noncomputable def MI (K:PySem.W.Frag) (n:Nat) (t:TGs):TG:=fun v σ H Q=>∃ a xs,v = .ref a/\(SqT K H a xs\/SqL K H a xs)/\xs.length = n/\t xs σ H Q
theorem mO {prog:aM} {w:bj} {A:ba} {E:af->ai->Prop} {s:ai} {env:Env} {elts:List aE} {x1} {pos:Pos} {t:av} {items:Array af} {Q:Unit->ai->Prop} (hh:A.handled = none) (ht:s.heap.IsList t items)
 (hn:(assignEach elts env).length = items.size) (hstar:(assignEach elts env).findIdx? (·.1) = none)
 (h:∀ h',zj s.heap.objs.size s.heap h'->wpAny (model prog w) A (assignInOrder ((assignEach elts env).map (·.2)) items.toList) Q E { s with heap:=h' }) :
 wpAny (model prog w) A (assign (.Tuple elts x1 pos) env (.ref t)) Q E s:=by
 rw [assign_Tuple];refine ab (fu ?_);unfold unpack;rw [hn,hstar];exact ab (cE (PySem.W.kun_itemsOf hh ht h))
theorem JA {X:Cx} {es:List aE} {k:Nat} {t:TGs} {n:Nat} {pos:Pos} (hc:X.calm = true) (h:PGs X es t)
 (hn:(assignEach es X.env).length = n:=by rfl) (hst:(assignEach es X.env).findIdx? (·.1) = none:=by rfl):PG X (.Tuple es k pos) (MI X.K n t):=by
 intro pins s σ H v u Q I r hw;obtain ⟨a,xs,e1,hq,hl,hw⟩:=hw;rcases hq with hq | hq
 . exact Jy hc h hn hst pins s σ H v u Q I r ⟨a,xs,e1,hq,hl,hw⟩
 . subst e1;cases r;obtain ⟨its,rv,pl,hz⟩:=I.list hq;refine mO (I.ok.hd hc) pl.isList (by simp [hn,<- hl,rv.length]) hst fun h' hx=>?_;have I1:Inv X pins σ H { s with heap:=h' }:=I.kept (t':=s.toks) fun b o e=>hx b o (aJ (aA e)) e;exact h pins _ σ H xs _ Q I1 (by simpa using rv) hw
noncomputable def gTg (K:PySem.W.Frag):Tg->TG
 | .nm i=>vm i
 | .tp is=>MI K is.length (tK is)
theorem rk (C:Cok X c cx k):∀ (is:List Nat) (es:List aE),KH c is es = true->PGs X es (tK is)/\(assignEach es X.env).length = is.length/\(assignEach es X.env).findIdx? (·.1) = none
 | [],es,h=>by
   obtain ⟨rfl,_⟩:=fy h
   exact ⟨Gv,rfl,rfl⟩
 | i::is,es,h=>by
   obtain ⟨e,r,rfl,hh⟩:=eu h;rw [aa] at hh;obtain ⟨x,p,rfl,h1⟩:=cy hh.1;obtain ⟨q1,q2,q3⟩:=rk C is r hh.2;obtain ⟨n1,n2,n3⟩:=C.to h1;refine ⟨De (yk C.nd' n1 n2 n3) q1 rfl,?_,?_⟩
   . show (assignEach r X.env).length+1 = _;rw [q2];rfl
   . show List.findIdx? _ ((false,_)::assignEach r X.env) = none;rw [AY,q3];rfl
theorem lH (C:Cok X c cx k) (h:nK c tg t = true):PG X t (gTg X.K tg):=by
 cases tg with
 | nm i =>
   obtain ⟨_,_,rfl,h1⟩:=cy h;obtain ⟨n1,n2,n3⟩:=C.to h1
   exact yk C.nd' n1 n2 n3
 | tp is =>
   obtain ⟨_,_,_,rfl,h1⟩:=iE h;obtain ⟨q1,q2,q3⟩:=rk C _ _ h1;exact JA C.calm q1 q2 q3
theorem take_set {α:Type} (l:List α) (i n:Nat) (x:α) (h:n<=i):(l.set i x).take n = l.take n:=by
 apply List.ext_getElem?;intro j;by_cases hj:j < n
 . rw [dO hj,dO hj,bF (by lia)]
 . rw [eW (by rw [cF];lia),eW (by rw [cF];lia)]
theorem pJ {K:PySem.W.Frag} {G:Gh} {H:Hp} {F:av->Prop} {Q:L2.St->Hp->Prop}:∀ (is:List Nat) (ds:List D) (xs:List V) (σ:L2.St) (δ:Loc),Ok K G F σ H δ->aG K H F ds xs->is.length = ds.length->is.all (· < δ.length) = true ->
 (∀ σ',Ok K G F σ' H ((is.zip ds).foldl (fun δ p=>δ.set p.1 (.val p.2)) δ)->(∀ n,(is.all fun i=>decide (n<=i)) = true->σ'.take n = σ.take n)->Q σ' H)->tK is xs σ H Q
 | [],ds,xs,σ,δ,ok,r,hl,_,q=>by
   have:ds = []:=dh.mp hl.symm;subst this;unfold aG at r
   exact ⟨r,q σ ok fun _ _=>rfl⟩
 | i::is,[],xs,σ,δ,ok,r,hl,_,q=>by simp at hl
 | i::is,d::ds,xs,σ,δ,ok,r,hl,ha,q=>by
   unfold aG at r;obtain ⟨y,ys,rfl,r1,r2⟩:=r;rw [fU,aa] at ha;refine ⟨y,ys,rfl,?_⟩;refine pJ is ds ys (σ.set i (some y)) (δ.set i (.val d)) (ok.set (of_decide_eq_true ha.1) r1) r2 (by simpa using hl) ?_ fun σ' o t=>q σ' o fun n hn=>?_
   . rw [bR];exact ha.2
   . rw [fU,aa] at hn;rw [t n hn.2,take_set _ _ _ _ (of_decide_eq_true hn.1)]
theorem kL {K:PySem.W.Frag} {G:Gh} {H:Hp} {F:av->Prop} {σ:L2.St} {δ δ':Loc} {tg:Tg} {d:D} {v:V} {Q:L2.St->Hp->Prop} (ok:Ok K G F σ H δ) (r:Rel K H F d v) (e:dv δ tg d = some δ') (q:∀ σ',Ok K G F σ' H δ'->(∀ n,lG n tg = true->σ'.take n = σ.take n)->Q σ' H):gTg K tg v σ H Q:=by
 unfold dv at e;split at e
 . split at e
   . cases e;exact q _ (ok.set ‹_› r) fun n hn=>take_set _ _ _ _ (of_decide_eq_true hn)
   . cases e
 . split at e
   . rename_i hh;cases e;unfold Rel at r;obtain ⟨a,xs,e1,h1,h2⟩:=r;exact ⟨a,xs,e1,.inl h1,by rw [h2.length];exact hh.1.symm,pJ _ _ _ _ _ ok h2 hh.1 hh.2 q⟩
   . cases e
 . split at e
   . rename_i hh;cases e;unfold Rel at r;obtain ⟨a,xs,e1,h1,h2⟩:=r;exact ⟨a,xs,e1,.inr h1.b.sq,by rw [h2.length];exact hh.1.symm,pJ _ _ _ _ _ ok h2 hh.1 hh.2 q⟩
   . cases e
 . cases e
theorem Ok.ext {K:PySem.W.Frag} {G:Gh} {H:Hp} {F:av->Prop} {σ:L2.St} {δ:Loc} (h:Ok K G F σ H δ) (tl:L2.St):Ok K G F (σ++tl) H (δ++aN tl.length .no):=by
 have low:∀ (j:Nat) (s:Sl),(δ++aN tl.length .no)[j]? = some s->s = .no\/(δ[j]? = some s/\(σ++tl)[j]? = σ[j]?):=fun j s e=>by
  by_cases hj:j < δ.length
  . rw [aW hj] at e;exact .inr ⟨e,aW (by rw [<- h.len];exact hj)⟩
  . rw [br (by lia),di] at e;split at e
    . cases e;exact .inl rfl
    . cases e
 refine ⟨h.same,h.fd,h.rf,h.rl,h.tf,h.tabs,by rw [aj,aj,du,h.len],fun j s e=>?_,fun i j s t a e1 e2 o1 o2 p1 p2=>?_⟩
 . rcases low j s e with rfl | ⟨e1,e2⟩
   . trivial
   . rw [e2];exact h.sl j s e1
 . rcases low i _ e1 with z | ⟨a1,a2⟩
   . subst z;cases o1
   . rcases low j _ e2 with z | ⟨b1,b2⟩
     . subst z;cases o2
     . rw [a2] at p1;rw [b2] at p2;exact h.apart i j s t a a1 b1 o1 o2 p1 p2
theorem Ok.cut {K:PySem.W.Frag} {G:Gh} {H:Hp} {F:av->Prop} {σ:L2.St} {δ:Loc} (h:Ok K G F σ H δ) (n:Nat):Ok K G F (σ.take n) H (δ.take n):=by
 have low:∀ (j:Nat) (s:Sl),(δ.take n)[j]? = some s->δ[j]? = some s/\(σ.take n)[j]? = σ[j]? := fun j s e=>by
  by_cases hj:j < n
  . rw [dO hj] at e;exact ⟨e,dO hj⟩
  . rw [eW (by rw [cF];lia)] at e;cases e
 refine ⟨h.same,h.fd,h.rf,h.rl,h.tf,h.tabs,by rw [cF,cF,h.len],fun j s e=>?_,fun i j s t a e1 e2 o1 o2 p1 p2=>?_⟩
 . obtain ⟨e1,e2⟩:=low j s e;rw [e2];exact h.sl j s e1
 . obtain ⟨a1,a2⟩:=low i _ e1;obtain ⟨b1,b2⟩:=low j _ e2;rw [a2] at p1;rw [b2] at p2;exact h.apart i j s t a a1 b1 o1 o2 p1 p2
noncomputable def Gh.and (G:Gh) (D:av):Gh:=⟨G.h,fun b=>G.R b\/b = D⟩
theorem Ok.free {K:PySem.W.Frag} {G:Gh} {H:Hp} {F:av->Prop} {σ:L2.St} {δ:Loc} {p:av} (h:Ok K G F σ H δ) (hp:H p = none):G.free p:=by
 refine ⟨?_,fun z=>?_⟩
 . cases e:G.h p with
   | none=>rfl
   | some o =>
     by_cases t:NT o
     . rw [h.same.nt p o t e] at hp;cases hp
     . cases o<;>first | (exact absurd trivial t) | skip
       obtain ⟨qs,z⟩:=h.same.tb p _ e;rw [z] at hp;cases hp
 . obtain ⟨o,e,_⟩:=h.rl p z;rw [hp] at e;cases e
theorem Ok.enterO {K:PySem.W.Frag} {G:Gh} {H:Hp} {F:av->Prop} {σ:L2.St} {δ:Loc} {p:av} (h:Ok K G F σ H δ) (hp:H p = none) {u:HO} (hu:Mo u):Ok K (G.and p) (fun b=>F b\/b = p) σ (upd H p u) δ/\Step G F H (fun b=>F b\/b = p) (upd H p u):=by
 have nF:¬ F p:=rz h.fd hp;have sm:=bV hp u;have st:∀ G':Gh,Step G' F H (fun b=>F b\/b = p) (upd H p u):=fun G'=>⟨fun b o _ e _=>sm b o e,fun b z=>by rcases z with z | z;exact .inl z;exact .inr (by rw [z];exact hp),fun b o _ f e=>⟨.inl f,sm b o e⟩,fun b ps e=>⟨ps,sm b _ e⟩⟩;refine ⟨⟨h.same.trans (.of sm),fun b z=>?_,fun b z=>?_,fun b z=>?_,fun t ht=>.inl (h.tf t ht),h.tabs.keep fun b o _ e=>sm b o e,h.len,fun j s e=>?_,h.apart⟩,st G⟩
 . rcases z with z | z
   . exact h.fd.same sm b z
   . rw [z];exact ⟨u,bP,.inl hu⟩
 . rcases z with z | z
   . exact .inl (h.rf b z)
   . exact .inr z
 . rcases z with z | z
   . exact xX h.rl sm b z
   . rw [z];exact ⟨u,bP,hu⟩
 . exact ft.stay0 h.fd (st G) (fun a v _ f1 _ f3=>⟨.inl f1,sm _ _ f3⟩) (ft.free (G:=G) (G':=G.and p) (fun a f1 f2=>⟨f2.1,fun z=>Or.elim z f2.2 fun w=>nF (w▸f1)⟩) (h.sl j s e))
theorem Ok.enter {K:PySem.W.Frag} {G:Gh} {H:Hp} {F:av->Prop} {σ:L2.St} {δ:Loc} {p:av} (h:Ok K G F σ H δ) (hp:H p = none) (xs:List V):Ok K (G.and p) (fun b=>F b\/b = p) σ (upd H p (.lst xs)) δ/\Step G F H (fun b=>F b\/b = p) (upd H p (.lst xs)):=h.enterO hp trivial
theorem Ok.pokeO {K:PySem.W.Frag} {G:Gh} {H:Hp} {F:av->Prop} {σ:L2.St} {δ:Loc} {p:av} {x u:HO} (h:Ok K (G.and p) F σ H δ) (hg:G.free p) (hP:H p = some x) (hx:Mo x) (hu:Mo u):Ok K (G.and p) F σ (upd H p u) δ:=by
 have hF:F p:=h.rf p (.inr rfl);have nt:=hx.nt;have st0:Step g0 F H F (upd H p u):=⟨fun b o _ e n=>by rw [bq (fun z:b = p=>n (by rw [z];exact hF))];exact e,fun b z=>.inl z,fun _ _ r _ _=>r.elim,fun b ps e=>⟨ps,by rw [bq (fun w:b = p=>by rw [w,hP] at e;cases e;exact nt)];exact e⟩⟩;refine ⟨⟨fun b o t e=>?_,fun b ps e=>?_⟩,fun b z=>?_,h.rf,fun b z=>?_,h.tf,h.tabs.keep fun b o n e=>?_,h.len,fun j s e=>?_,h.apart⟩
 . rw [bq (fun z:b = p=>by have e':G.h b = some o:=e;rw [z,hg.1] at e';cases e')];exact h.same.nt b o t e
 . rw [bq (fun z:b = p=>by have e':G.h b = some _:=e;rw [z,hg.1] at e';cases e')];exact h.same.tb b ps e
 . by_cases hb:b = p
   . rw [hb];exact ⟨u,bP,.inl hu⟩
   . rw [bq hb];exact h.fd b z
 . by_cases hb:b = p
   . rw [hb];exact ⟨u,bP,hu⟩
   . rw [bq hb];exact h.rl b z
 . rw [bq (fun w:b = p=>by rw [w,hP] at e;cases e;exact n hx)];exact e
 . exact ft.stay0 h.fd st0 (fun a v _ f1 f2 f3=>⟨f1,by rw [bq (fun z:a = p=>f2.2 (.inr z))];exact f3⟩) (h.sl j s e)
theorem Ok.poke {K:PySem.W.Frag} {G:Gh} {H:Hp} {F:av->Prop} {σ:L2.St} {δ:Loc} {p:av} {zs:List V} (h:Ok K (G.and p) F σ H δ) (hg:G.free p) (hP:H p = some (.lst zs)) (xs:List V):Ok K (G.and p) F σ (upd H p (.lst xs)) δ:=h.pokeO hg hP trivial trivial
theorem Ok.leave {K:PySem.W.Frag} {G:Gh} {H:Hp} {F:av->Prop} {σ:L2.St} {δ:Loc} {p:av} (h:Ok K (G.and p) F σ H δ) (hg:G.free p):Ok K G (fun b=>F b/\b≠p) σ H δ:=by
 have hs:∀ b,(F b/\b≠p)->F b:=fun b z=>z.1
 have tf':TF fun b=>F b/\b≠p:=fun t ht=>⟨h.tf t ht,fun w=>by
  obtain ⟨ps,e,_⟩:=h.tabs t ht;obtain ⟨o,hP,m⟩:=h.rl p (.inr rfl);rw [w,hP] at e;cases e;exact m⟩
 refine ⟨h.same,fun b z=>h.fd b z.1,fun b z=>⟨h.rf b (.inl z),fun w=>hg.2 (by rw [<- w];exact z)⟩,fun b z=>h.rl b (.inl z),tf',h.tabs,h.len,fun j s e=>?_,h.apart⟩;refine ((h.sl j s e).less h.fd hs fun a z za=>?_).free (G:=G.and p) (G':=G) fun b _ z=>⟨z.1,fun w=>z.2 (Or.inl w)⟩;obtain ⟨a',u,d,e1,f1,f2,_⟩:=ft.ow (h.sl j s e) z;rw [za] at e1;cases e1;exact ⟨f1,fun w=>f2.2 (.inr w)⟩
theorem Ok.keep {K:PySem.W.Frag} {G:Gh} {H:Hp} {F:av->Prop} {σ:L2.St} {δ:Loc} {p:av} (h:Ok K (G.and p) F σ H δ):Ok K G F σ H δ :=
 ⟨h.same,h.fd,fun b z=>h.rf b (.inl z),fun b z=>h.rl b (.inl z),h.tf,h.tabs,h.len,fun j s e=>(h.sl j s e).free (G:=G.and p) (G':=G) fun b _ z=>⟨z.1,fun w=>z.2 (Or.inl w)⟩,h.apart⟩
end
section
variable {K:PySem.W.Frag} {cx:Cl}
noncomputable def vA (cx:Cl) (k:Nat) (tg:Tg) (ifs:Eo) (elt:E):D->Loc->Option (Option D × Loc):=fun x δ0=>do
 let δ2 <- dv (δ0++aN k .no) tg x
 let (b,δ3) <- evG cx ifs δ2
 if b then do
  let (y,δ4) <- evE cx elt δ3
  return (some y,δ4.take δ0.length)
 else return (none,δ3.take δ0.length)
theorem Hl (ev:evE cx (.comp k tg src ifs elt) δ = some (d,δ')) :
 ∃ ds δ1 ys,evI cx src δ = some (ds,δ1)/\mK (vA cx k tg ifs elt) ds δ1 = some (ys,δ')/\ys.length<=sizeLine/\d = .lst ys:=by
 simp only [evE,ag,ae] at ev;obtain ⟨⟨ds,δ1⟩,ea,⟨ys,δ2⟩,eb,ev⟩:=ev;split at ev
 . cases ev;exact ⟨ds,δ1,ys,ea,eb,‹_›,rfl⟩
 . cases ev
theorem AA (h:vA cx k tg ifs elt x δ0 = some (o,δ1)):∃ δ2 b δ3,dv (δ0++aN k .no) tg x = some δ2/\evG cx ifs δ2 = some (b,δ3) /\
 ((b = true/\∃ y δ4,evE cx elt δ3 = some (y,δ4)/\o = some y/\δ1 = δ4.take δ0.length)\/(b = false/\o = none/\δ1 = δ3.take δ0.length)):=by
 unfold vA at h;simp only [ag,ae] at h;obtain ⟨δ2,e1,⟨b,δ3⟩,e2,h⟩:=h;refine ⟨δ2,b,δ3,e1,e2,?_⟩
 cases b with
 | true =>
   simp only [if_true,ae] at h;obtain ⟨⟨y,δ4⟩,e3,h⟩:=h;cases h
   exact .inl ⟨rfl,y,δ4,e3,rfl,rfl⟩
 | false =>
   simp only [aZ,if_false] at h;cases h;exact .inr ⟨rfl,rfl,rfl⟩
theorem xk (h:mK f (x::xs) δ = some (ys,δ')):∃ o δ1 zs,f x δ = some (o,δ1)/\mK f xs δ1 = some (zs,δ')/\ys = (match o with | some y=>y::zs | none=>zs):=by
 unfold mK at h;simp only [ag,ae] at h;obtain ⟨⟨o,δ1⟩,e1,⟨zs,δ2⟩,e2,h⟩:=h;cases h;exact ⟨o,δ1,zs,e1,e2,rfl⟩
theorem Step.sub (h:Step G' F H F' H') (hs:∀ b,G.R b->G'.R b):Step G F H F' H':=⟨h.keep,h.grow,fun b o r=>h.res b o (hs b r),h.tb⟩
theorem vn:∀ (ps:List (Nat × D)) (δ:Loc),(ps.foldl (fun δ p=>δ.set p.1 (Sl.val p.2)) δ).length = δ.length:=by
 intro ps
 induction ps with
 | nil=>intro δ;rfl
 | cons a r ih=>intro δ;rw [kK,ih,bR]
theorem ny (es:dv δ tg d = some δ'):δ'.length = δ.length:=by
 unfold dv at es;split at es
 . split at es
   . cases es;rw [bR]
   . cases es
 . split at es
   . cases es;rw [vn]
   . cases es
 . split at es
   . cases es;rw [vn]
   . cases es
 . cases es
theorem tj {P:List D->(av->Prop)->L2.St->Hp->Prop} (wk:Wk K G F1 H1 J ds) (hs:∀ r F σ H,P r F σ H->Step G F1 H1 F H/\FD F H) (h0:P ds F0 σ0 H0)
 (turn:∀ d r F σ H x (N:L2.St->Hp->Prop),P (d::r) F σ H->Rel K H F d x->(∀ F4 σ4 H4,P r F4 σ4 H4->N σ4 H4)->g x σ H fun σ2 H2=>tt σ2 H2 fun b H3=>if b = true then tb σ2 H3 N else N σ2 H3)
 (fin:∀ F σ H,P [] F σ H->Q σ H):tLp J g tt tb σ0 H0 Q:=by
 refine ⟨fun i m σc Hc=>m = ds.length - i/\i<=ds.length/\∃ F',P (ds.drop i) F' σc Hc,⟨ds.length,by simp,cZ _,F0,h0⟩,?_⟩;rintro i m σc Hc ⟨rfl,hi,F',h⟩;obtain ⟨st,fd⟩:=hs _ _ _ _ h;by_cases hlt:i < ds.length
 . obtain ⟨go,yl⟩:=(wk F' Hc st fd i).1 ds[i] (az hlt);refine .inr ⟨go,fun x H3 hy=>?_⟩;obtain ⟨rfl,rx⟩:=yl x H3 hy;rw [fL hlt] at h;exact turn _ _ _ _ _ x _ h rx fun F4 σ4 H4 z=>⟨_,by lia,rfl,hlt,F4,z⟩
 . obtain rfl:i = ds.length:=by lia
   rw [ph] at h;exact .inl ⟨(wk F' Hc st fd ds.length).2 rfl,fin _ _ _ h⟩
theorem Step.new {o:HO} (s:Step G F1 H1 F8 H8) (hp:H1 p = none):Step G F1 H1 F8 (upd H8 p o):=by
 refine ⟨fun b o t e nf=>?_,s.grow,fun b o r f e=>?_,fun b ps e=>?_⟩
 . rw [bq (fun w:b = p=>by rw [w,hp] at e;cases e)];exact s.keep b o t e nf
 . obtain ⟨a1,a2⟩:=s.res b o r f e;refine ⟨a1,?_⟩;rw [bq (fun w:b = p=>by rw [w,hp] at e;cases e)];exact a2
 . rw [bq (fun w:b = p=>by rw [w,hp] at e;cases e)];exact s.tb b ps e
theorem Sim.new {o:HO} (s:Sim H1 H8) (hp:H1 p = none):Sim H1 (upd H8 p o):=by
 refine ⟨fun b o t e=>?_,fun b ps e=>?_⟩
 . rw [bq (fun w:b = p=>by rw [w,hp] at e;cases e)];exact s.nt b o t e
 . rw [bq (fun w:b = p=>by rw [w,hp] at e;cases e)];exact s.tb b ps e
theorem xj (n:(!bL elt) = true) (hge:lG σ.length tg = true)
 (ok1:Ok K G F1 σ H1 δ1) (wk:Wk K G F1 H1 J ds) (hp:H1 p = none) (ev:mK (vA cx k tg ifs elt) ds δ1 = some (ys,δ2)) (hz:ys.length<=sizeLine)
 (q:∀ σ' H2 F2 xs,Ok K (G.and p) F2 σ H2 δ2->H2 p = some (.lst xs)->aG K H2 F2 ys xs->Step G F1 H1 F2 H2->((npO ifs && np elt) = true->Sim H1 H2)->Q σ' H2) :
 tLp J (gTg K tg) (tG K cx ifs) (BW p (tE K cx elt)) (σ++aN k none) (upd H1 p (.lst [])) Q:=by
 have hg:=ok1.free hp;obtain ⟨ok2,st2⟩:=ok1.enter hp [];have hFs:∀ b,G.R b->(G.and p).R b:=fun b z=>.inl z
 refine tj (P:=fun r F' σc Hc=>∃ δi zs xs yi,(∃ tl:L2.St,σc = σ++tl/\tl.length = k)/\Ok K (G.and p) F' σ Hc δi/\mK (vA cx k tg ifs elt) r δi = some (zs,δ2)/\yi++zs = ys/\Hc p = some (.lst xs)/\aG K Hc F' yi xs/\Step G F1 H1 F' Hc /\
  ((npO ifs && np elt) = true->Sim H1 Hc)) wk (fun r F σ H z=>by obtain ⟨_,_,_,_,_,ok,_,_,_,_,st,_⟩:=z;exact ⟨st,ok.fd⟩) (F0:=fun b=>F1 b\/b = p) ⟨δ1,ys,[],[],⟨_,rfl,by simp⟩,ok2,ev,rfl,bP,aG.nil,st2,fun _=>.of (bV hp _)⟩ ?_ ?_
 . rintro d r F' _ H3 x N ⟨δi,zs,xs,yi,⟨tl,rfl,htl⟩,ok,el,ey,eD,rl,st,sm⟩ rx hN;have hF:F' p:=ok.rf p (.inr rfl);obtain ⟨o,δ5,zs',ef,el',ez⟩:=xk el;obtain ⟨δ6,b,δ7,es,eg,alt⟩:=AA ef;have okx:Ok K (G.and p) F' (σ++tl) H3 (δi++aN k .no):=by rw [<- htl];exact ok.ext tl
   refine kL okx rx es fun σ2 ok6 htake=>?_;have t2:σ2.take σ.length = σ:=by rw [htake _ hge,HB];rfl
   have l2:σ2.length = σ.length+k:=by
    have a1:=okx.len;have a2:=ok6.len;have e1:=ny es;have e2:(σ++tl).length = σ.length+k:=by rw [aj,htl]
    lia
   have dl:δi.length = σ.length:=ok.len
   have tail:∃ tl':L2.St,σ2 = σ++tl'/\tl'.length = k:=by
    refine ⟨σ2.drop σ.length,?_,by rw [gK];lia⟩
    conv=>lhs;rw [<- xG σ.length σ2,t2]
   refine ⟨G.and p,F',δ6,b,δ7,ok6,eg,fun H7 F7 st7 sm7 ok7=>?_⟩;have keepD:∀ {F8:av->Prop} {H8:Hp},Step (G.and p) F' H3 F8 H8->H8 p = some (.lst xs):=fun s8=>(s8.res p _ (.inr rfl) hF eD).2;rcases alt with ⟨rfl,y,δ8,ee,rfl,rfl⟩ | ⟨rfl,rfl,rfl⟩
   . refine hZ ?_;refine ⟨G.and p,F7,δ7,y,δ8,ok7,ee,fun u H8 F8 st8 sm8 ok8 r8=>?_⟩;have s78:=st7.trans st8;have eD8:=keepD s78;have ry:=en n r8;have rl8:aG K H8 F8 yi xs:=aG.step ok.fd s78 yi xs rl;have hF8:F8 p:=ok8.rf p (.inr rfl);have pk:Step g0 F8 H8 F8 (upd H8 p (.lst (xs++[u]))):=⟨fun b o _ e nf=>by rw [bq (fun z:b = p=>nf (by rw [z];exact hF8))];exact e,fun b z=>.inl z,fun _ _ r _ _=>r.elim,fun b ps e=>⟨ps,by rw [bq (fun w:b = p=>by rw [w,eD8] at e;cases e)];exact e⟩⟩;subst ez
     have hyl:yi.length < sizeLine:=by
      have:=congrArg zf ey;rw [aj] at this;simp only [ak] at this
      lia
     refine ⟨xs,eD8,by rw [rl8.length];exact hyl,hN F8 _ _ ⟨δ8.take δi.length,zs',xs++[u],yi++[y],tail,?_,el',by rw [dG];exact ey,bP,?_,?_,fun z=>?_⟩⟩
     . have:=(ok8.poke hg eD8 (xs++[u])).cut δi.length;rw [dl,t2] at this;rw [dl];exact this
     . exact aG.step ok8.fd pk _ _ (rl8.append (aG.one ry))
     . exact (st.trans (s78.sub hFs)).new hp
     . have z':=z;rw [aa] at z';exact (((sm z).trans (sm7 z'.1)).trans (sm8 z'.2)).new hp
   . refine iN ?_;subst ez;refine hN F7 _ _ ⟨δ7.take δi.length,_,xs,yi,tail,?_,el',ey,keepD st7,aG.step ok.fd st7 yi xs rl,st.trans (st7.sub hFs),fun z=>?_⟩
     . have:=ok7.cut δi.length;rw [dl,t2] at this;rw [dl];exact this
     . have z':=z;rw [aa] at z';exact (sm z).trans (sm7 z'.1)
 . rintro F' _ Hc ⟨δi,zs,xs,yi,_,ok,el,ey,eD,rl,st,sm⟩;cases el;rw [bS] at ey;subst ey;exact q _ Hc F' xs ok eD rl st sm
end
end PP
end
section
namespace PP
open PySem
section
variable (cx:Cl)
noncomputable def wE (e:E) (δ:Loc) (Q:D->Loc->Prop):Prop:=∃ d δ',evE cx e δ = some (d,δ')/\Q d δ'
noncomputable def wT (e:E) (δ:Loc) (Q:Bool->Loc->Prop):Prop:=∃ d δ',evT cx e δ = some (d,δ')/\Q d δ'
noncomputable def wEs (e:Es) (δ:Loc) (Q:List D->Loc->Prop):Prop:=∃ d δ',fW cx e δ = some (d,δ')/\Q d δ'
noncomputable def wO (e:Eo) (δ:Loc) (Q:Option Int->Loc->Prop):Prop:=∃ d δ',evO cx e δ = some (d,δ')/\Q d δ'
noncomputable def wG (e:Eo) (δ:Loc) (Q:Bool->Loc->Prop):Prop:=∃ d δ',evG cx e δ = some (d,δ')/\Q d δ'
noncomputable def wI (e:It) (δ:Loc) (Q:List D->Loc->Prop):Prop:=∃ d δ',evI cx e δ = some (d,δ')/\Q d δ'
noncomputable def wS (s:S) (δ:Loc) (Q:Out->Prop):Prop:=∃ o,evS cx s δ = some o/\Q o
noncomputable def wSs (s:Ss) (δ:Loc) (Q:Out->Prop):Prop:=∃ o,dH cx s δ = some o/\Q o
noncomputable def wTg (δ:Loc) (tg:Tg) (d:D) (Q:Loc->Prop):Prop:=∃ δ',dv δ tg d = some δ'/\Q δ'
noncomputable def wOp (op:Op) (x y:D) (Q:D->Prop):Prop:=∃ z,opD op x y = some z/\Q z
noncomputable def jj (op:Cop) (x y:D) (Q:Bool->Prop):Prop:=∃ z,qo op x y = some z/\Q z
noncomputable def ng (f:Blt) (ds:List D) (Q:D->Prop):Prop:=∃ z,kF f ds = some z/\Q z
noncomputable def mf (f:Nat) (ds:List D) (Q:D->Prop):Prop:=∃ z,cx.call f ds = some z/\Q z
noncomputable def sh (δ:Loc) (i:Nat) (Q:D->Prop):Prop:=∃ z,PP.get δ i = some z/\Q z
noncomputable def wIx (x y:D) (Q:D->Prop):Prop:=∃ z,ixD x y = some z/\Q z
noncomputable def wSl (x:D) (lo hi:Option Int) (Q:D->Prop):Prop:=∃ z,slD x lo hi = some z/\Q z
noncomputable def wTv (x:D) (Q:Bool->Prop):Prop:=∃ z,tv x = some z/\Q z
noncomputable def wItems (x:D) (Q:List D->Prop):Prop:=∃ z,items x = some z/\Q z
noncomputable def LG (k:Nat) (tg:Tg) (ifs:Eo) (elt:E):D->Loc->Option (Option D × Loc):=fun x δ0=>do
 let δ2 <- dv (δ0++aN k .no) tg x
 let (b,δ3) <- evG cx ifs δ2
 if b then do
  let (y,δ4) <- evE cx elt δ3
  return (some y,δ4.take δ0.length)
 else return (none,δ3.take δ0.length)
noncomputable def ly (k:Nat) (tg:Tg) (ifs:Eo) (elt:E) (ds:List D) (δ:Loc) (Q:List D->Loc->Prop):Prop:=∃ ys δ',mK (LG cx k tg ifs elt) ds δ = some (ys,δ')/\Q ys δ'
noncomputable def Kz (tg:Tg) (body:Ss):D->Loc->Option Out:=fun x δ0=>match dv δ0 tg x with
 | some δ2=>dH cx body δ2
 | none=>none
noncomputable def lg (tg:Tg) (body:Ss) (ds:List D) (δ:Loc) (Q:Out->Prop):Prop:=∃ o,forL (Kz cx tg body) ds δ = some o/\Q o
end
section
variable {α β γ:Type} {P P':α->Loc->Prop} {R R':α->Prop} {Q:β->Loc->Prop} {S:γ->Prop} {o:Option (α × Loc)} {u:Option α} {f:α × Loc->Option (β × Loc)} {g:α->Option (β × Loc)} {f':α × Loc->Option γ} {g':α->Option γ} {d:β} {r:γ} {δ:Loc} {c:Prop} [Decidable c]
theorem yb:(∃ r,o.bind f' = some r/\S r)↔∃ x δ1,o = some (x,δ1)/\∃ r,f' (x,δ1) = some r/\S r:=by
 cases o with
 | none=>exact ⟨fun ⟨_,e,_⟩=>(by cases e),fun ⟨_,_,e,_⟩=>(by cases e)⟩
 | some p=>exact ⟨fun h=>⟨p.1,p.2,rfl,h⟩,fun ⟨_,_,e,h⟩=>by cases e;exact h⟩
theorem yqs:(∃ r,u.bind g' = some r/\S r)↔∃ x,u = some x/\∃ r,g' x = some r/\S r:=by
 cases u with
 | none=>exact ⟨fun ⟨_,e,_⟩=>(by cases e),fun ⟨_,e,_⟩=>(by cases e)⟩
 | some p=>exact ⟨fun h=>⟨p,rfl,h⟩,fun ⟨_,e,h⟩=>by cases e;exact h⟩
theorem yr:(∃ r',some r = some r'/\S r')↔S r:=⟨fun ⟨_,e,h⟩=>(by cases e;exact h),fun h=>⟨_,rfl,h⟩⟩
theorem yi:(∃ r',(if c then some r else none) = some r'/\S r')↔c/\S r:=by
 by_cases h:c
 . rw [if_pos h];exact yr.trans ⟨fun q=>⟨h,q⟩,fun q=>q.2⟩
 . rw [if_neg h];exact ⟨fun ⟨_,e,_⟩=>(by cases e),fun q=>absurd q.1 h⟩
theorem yn {A:Prop} (h:¬ A):(∃ r',(none:Option γ) = some r'/\S r')↔A:=⟨fun ⟨_,e,_⟩=>(by cases e),fun q=>absurd q h⟩
theorem xq {o:Option (β × Loc)}:(∃ d δ',o = some (d,δ')/\Q d δ')↔∃ r,o = some r/\Q r.1 r.2:=⟨fun ⟨_,_,e,q⟩=>⟨_,e,q⟩,fun ⟨r,e,q⟩=>⟨r.1,r.2,e,q⟩⟩
theorem xb:(∃ d δ',o.bind f = some (d,δ')/\Q d δ')↔∃ x δ1,o = some (x,δ1)/\∃ d δ',f (x,δ1) = some (d,δ')/\Q d δ':=xq.trans (yb.trans ⟨fun ⟨x,y,e,h⟩=>⟨x,y,e,xq.mpr h⟩,fun ⟨x,y,e,h⟩=>⟨x,y,e,xq.mp h⟩⟩)
theorem x1:(∃ d δ',u.bind g = some (d,δ')/\Q d δ')↔∃ x,u = some x/\∃ d δ',g x = some (d,δ')/\Q d δ':=xq.trans (yqs.trans ⟨fun ⟨x,e,h⟩=>⟨x,e,xq.mpr h⟩,fun ⟨x,e,h⟩=>⟨x,e,xq.mp h⟩⟩)
theorem xr:(∃ d' δ',some (d,δ) = some (d',δ')/\Q d' δ')↔Q d δ:=xq.trans yr
theorem xi:(∃ d' δ',(if c then some (d,δ) else none) = some (d',δ')/\Q d' δ')↔c/\Q d δ:=xq.trans yi
theorem xn {A:Prop} (h:¬ A):(∃ d' δ',(none:Option (β × Loc)) = some (d',δ')/\Q d' δ')↔A:=xq.trans (yn h)
theorem xc (h:∀ x δ,P x δ↔P' x δ):(∃ x δ1,o = some (x,δ1)/\P x δ1)↔∃ x δ1,o = some (x,δ1)/\P' x δ1:=⟨fun ⟨x,δ,e,p⟩=>⟨x,δ,e,(h x δ).mp p⟩,fun ⟨x,δ,e,p⟩=>⟨x,δ,e,(h x δ).mpr p⟩⟩
theorem xd (h:∀ x,R x↔R' x):(∃ x,u = some x/\R x)↔∃ x,u = some x/\R' x:=⟨fun ⟨x,e,p⟩=>⟨x,e,(h x).mp p⟩,fun ⟨x,e,p⟩=>⟨x,e,(h x).mpr p⟩⟩
end
theorem KA {b:Bool} {P:Bool->Prop}:(∃ k,D.bl b = D.bl k/\P k)↔P b:=⟨fun ⟨_,e,q⟩=>by cases e;exact q,fun q=>⟨_,rfl,q⟩⟩
theorem yH {b:Int} {P:Int->Prop}:(∃ k,D.int b = D.int k/\P k)↔P b:=⟨fun ⟨_,e,q⟩=>by cases e;exact q,fun q=>⟨_,rfl,q⟩⟩
theorem MM {b:Str} {P:Str->Prop}:(∃ k,D.str b = D.str k/\P k)↔P b:=⟨fun ⟨_,e,q⟩=>by cases e;exact q,fun q=>⟨_,rfl,q⟩⟩
theorem Eh {b:List D} {P:List D->Prop}:(∃ k,D.lst b = D.lst k/\P k)↔P b:=⟨fun ⟨_,e,q⟩=>by cases e;exact q,fun q=>⟨_,rfl,q⟩⟩
section
variable {cx:Cl} {δ:Loc}
theorem Iv {i:Nat} {Q:D->Loc->Prop}:wE cx (.var i) δ Q↔∃ d,Eb δ i = some d/\Q d (demote δ i):=x1.trans (xd fun _=>xr)
theorem LA {i:Nat} {Q:D->Loc->Prop}:wE cx (.pk i) δ Q↔sh δ i fun d=>Q d δ:=x1.trans (xd fun _=>xr)
theorem xK {i:Nat} {Q:D->Loc->Prop}:wE cx (.glob i) δ Q↔∃ d,cx.gl[i]? = some d/\Q d δ:=x1.trans (xd fun _=>xr)
theorem ID {i:Int} {Q:D->Loc->Prop}:wE cx (.int i) δ Q↔Q (.int i) δ:=xr
theorem LD {i:Bool} {Q:D->Loc->Prop}:wE cx (.bl i) δ Q↔Q (.bl i) δ:=xr
theorem Iy {i:Str} {Q:D->Loc->Prop}:wE cx (.str i) δ Q↔Q (.str i) δ:=xr
theorem IG {op:Op} {a b:E} {Q:D->Loc->Prop}:wE cx (.bin op a b) δ Q↔wE cx a δ fun x δ1=>wE cx b δ1 fun y δ2=>wOp op x y fun z=>Q z δ2:=xb.trans (xc fun _ _=>xb.trans (xc fun _ _=>x1.trans (xd fun _=>xr)))
theorem IE {op:Cop} {a b:E} {Q:D->Loc->Prop}:wE cx (.cmp op a b) δ Q↔wE cx a δ fun x δ1=>wE cx b δ1 fun y δ2=>jj op x y fun z=>Q (.bl z) δ2:=xb.trans (xc fun _ _=>xb.trans (xc fun _ _=>x1.trans (xd fun _=>xr)))
theorem Il {op:Cop} {a b:E} {Q:Bool->Loc->Prop}:wT cx (.cmp op a b) δ Q↔wE cx a δ fun x δ1=>wE cx b δ1 fun y δ2=>jj op x y fun z=>Q z δ2:=xb.trans (xc fun _ _=>xb.trans (xc fun _ _=>x1.trans (xd fun _=>xr)))
theorem IH {a b:E} {Q:D->Loc->Prop}:wE cx (.and a b) δ Q↔wE cx a δ fun x δ1=>∃ k,x = .bl k/\if k = true then wE cx b δ1 Q else Q (.bl false) δ1:=xb.trans (xc fun x _=>by
 cases x with
 | bl k=>refine Iff.trans ?_ KA.symm;cases k;exact xr;exact cA
 | _=>exact xn fun ⟨_,e,_⟩=>by cases e)
theorem Iz {a:E} {Q:D->Loc->Prop}:wE cx (.not a) δ Q↔wE cx a δ fun x δ1=>∃ k,x = .bl k/\Q (.bl (!k)) δ1:=xb.trans (xc fun x _=>by
 cases x with
 | bl k=>refine Iff.trans ?_ KA.symm;exact xr
 | _=>exact xn fun ⟨_,e,_⟩=>by cases e)
theorem IA {a:E} {Q:D->Loc->Prop}:wE cx (.neg a) δ Q↔wE cx a δ fun x δ1=>∃ i,x = .int i/\Q (.int (-i)) δ1:=xb.trans (xc fun x _=>by
 cases x with
 | int k=>refine Iff.trans ?_ yH.symm;exact xr
 | _=>exact xn fun ⟨_,e,_⟩=>by cases e)
theorem Im {a b:E} {Q:Bool->Loc->Prop}:wT cx (.and a b) δ Q↔wT cx a δ fun k δ1=>if k = true then wT cx b δ1 Q else Q false δ1:=xb.trans (xc fun k _=>by cases k;exact xr;exact cA)
theorem Lu {a b:E} {Q:Bool->Loc->Prop}:wT cx (.or a b) δ Q↔wT cx a δ fun k δ1=>if k = true then Q true δ1 else wT cx b δ1 Q:=xb.trans (xc fun k _=>by cases k;exact cA;exact xr)
theorem Ik {a:E} {Q:Bool->Loc->Prop}:wT cx (.not a) δ Q↔wT cx a δ fun k δ1=>Q (!k) δ1:=xb.trans (xc fun _ _=>xr)
theorem Ij {i:Nat} {Q:Bool->Loc->Prop}:wT cx (.var i) δ Q↔sh δ i fun d=>wTv d fun b=>Q b δ:=x1.trans (xd fun _=>x1.trans (xd fun _=>xr))
theorem Fl {f:Nat} {es:Es} {Q:Bool->Loc->Prop}:wT cx (.call f es) δ Q↔wEs cx es δ fun ds δ1=>mf cx f ds fun d=>wTv d fun b=>Q b δ1:=xb.trans (xc fun _ _=>x1.trans (xd fun _=>x1.trans (xd fun _=>xr)))
theorem IC {c a b:E} {Q:D->Loc->Prop}:wE cx (.ite c a b) δ Q↔wT cx c δ fun k δ1=>if k = true then wE cx a δ1 Q else wE cx b δ1 Q:=xb.trans (xc fun k _=>by cases k<;>exact cA)
theorem Iw {es:Es} {Q:D->Loc->Prop}:wE cx (.tup es) δ Q↔wEs cx es δ fun ds δ1=>ds.length<=sizeLine/\Q (.tup ds) δ1:=xb.trans (xc fun _ _=>xi)
theorem IB {es:Es} {Q:D->Loc->Prop}:wE cx (.lst es) δ Q↔wEs cx es δ fun ds δ1=>ds.length<=sizeLine/\Q (.lst ds) δ1:=xb.trans (xc fun _ _=>xi)
theorem LB {a b:E} {Q:D->Loc->Prop}:wE cx (.ix a b) δ Q↔wE cx a δ fun x δ1=>wE cx b δ1 fun y δ2=>wIx x y fun z=>Q z δ2:=xb.trans (xc fun _ _=>xb.trans (xc fun _ _=>x1.trans (xd fun _=>xr)))
theorem Lz {a:E} {lo hi:Eo} {Q:D->Loc->Prop}:wE cx (.sl a lo hi) δ Q↔wE cx a δ fun x δ1=>wO cx lo δ1 fun l δ2=>wO cx hi δ2 fun h δ3=>wSl x l h fun z=>Q z δ3:=xb.trans (xc fun _ _=>xb.trans (xc fun _ _=>xb.trans (xc fun _ _=>x1.trans (xd fun _=>xr))))
theorem sj {f:Nat} {es:Es} {Q:D->Loc->Prop}:wE cx (.call f es) δ Q↔wEs cx es δ fun ds δ1=>mf cx f ds fun z=>Q z δ1:=xb.trans (xc fun _ _=>x1.trans (xd fun _=>xr))
theorem IF {f:Blt} {es:Es} {Q:D->Loc->Prop}:wE cx (.blt f es) δ Q↔wEs cx es δ fun ds δ1=>ng f ds fun z=>Q z δ1:=xb.trans (xc fun _ _=>x1.trans (xd fun _=>xr))
theorem uy {i:Nat} {Q:D->Loc->Prop}:wE cx (.isdig i) δ Q↔sh δ i fun d=>∃ x,d = .str x/\Q (.bl (decide (x.length > 0) && x.cps.all cX)) δ:=x1.trans (xd fun x=>by
 cases x with
 | str k=>refine Iff.trans ?_ MM.symm;exact xr
 | _=>exact xn fun ⟨_,e,_⟩=>by cases e)
theorem Fp {Q:List D->Loc->Prop}:wEs cx .nil δ Q↔Q [] δ:=xr
theorem BH {e:E} {es:Es} {Q:List D->Loc->Prop}:wEs cx (.cons e es) δ Q↔wE cx e δ fun x δ1=>wEs cx es δ1 fun xs δ2=>Q (x::xs) δ2:=xb.trans (xc fun _ _=>xb.trans (xc fun _ _=>xr))
theorem Lw {Q:Option Int->Loc->Prop}:wO cx .no δ Q↔Q none δ:=xr
theorem Iq {e:E} {Q:Option Int->Loc->Prop}:wO cx (.yes e) δ Q↔wE cx e δ fun x δ1=>∃ i,x = .int i/\Q (some i) δ1:=xb.trans (xc fun x _=>by
 cases x with
 | int k=>refine Iff.trans ?_ yH.symm;exact xr
 | _=>exact xn fun ⟨_,e,_⟩=>by cases e)
theorem Ly {Q:Bool->Loc->Prop}:wG cx .no δ Q↔Q true δ:=xr
theorem Iu {e:E} {Q:Bool->Loc->Prop}:wG cx (.yes e) δ Q↔wT cx e δ Q:=cA
theorem Ir {e:E} {Q:List D->Loc->Prop}:wI cx (.rng e) δ Q↔wE cx e δ fun x δ1=>∃ j,x = .int j/\(-(2 ^ 62)<=j/\j < 2 ^ 62)/\Q (sH 0 j.toNat) δ1:=xb.trans (xc fun x _=>by
 cases x with
 | int k=>refine Iff.trans ?_ yH.symm;exact xi
 | _=>exact xn fun ⟨_,e,_⟩=>by cases e)
theorem Lx {e:E} {Q:List D->Loc->Prop}:wI cx (.sq e) δ Q↔wE cx e δ fun x δ1=>wItems x fun ds=>Q ds δ1:=xb.trans (xc fun _ _=>x1.trans (xd fun _=>xr))
theorem Fs {k:Nat} {tg:Tg} {src:It} {ifs:Eo} {elt:E} {Q:D->Loc->Prop}:wE cx (.comp k tg src ifs elt) δ Q↔wI cx src δ fun ds δ1=>ly cx k tg ifs elt ds δ1 fun ys δ2=>ys.length<=sizeLine/\Q (.lst ys) δ2:=xb.trans (xc fun _ _=>xb.trans (xc fun _ _=>xi))
theorem fQ {k:Nat} {tg:Tg} {ifs:Eo} {elt:E} {Q:List D->Loc->Prop}:ly cx k tg ifs elt [] δ Q↔Q [] δ:=xr
theorem eY {k:Nat} {tg:Tg} {ifs:Eo} {elt:E} {x:D} {xs:List D} {Q:List D->Loc->Prop}:ly cx k tg ifs elt (x::xs) δ Q↔wTg (δ++aN k .no) tg x fun δ2=>wG cx ifs δ2 fun b δ3 =>
 if b = true then wE cx elt δ3 fun y δ4=>ly cx k tg ifs elt xs (δ4.take δ.length) fun ys δ5=>Q (y::ys) δ5 else ly cx k tg ifs elt xs (δ3.take δ.length) Q:=xb.trans (x1.trans (xd fun _=>xb.trans (xc fun b _=>by cases b;exact xr.trans (xb.trans (xc fun _ _=>xr));exact xb.trans (xc fun _ _=>xr.trans (xb.trans (xc fun _ _=>xr))))))
end
section
variable (cx:Cl)
noncomputable def nW (ss:Ss) (Q:Out->Prop):Out->Prop
 | .nx δ=>wSs cx ss δ Q
 | .rt d δ=>Q (.rt d δ)
 | .ro d δ=>Q (.ro d δ)
end
noncomputable def ve (next:Loc->Prop) (Q:Out->Prop):Out->Prop
 | .nx δ=>next δ
 | .rt d δ=>Q (.rt d δ)
 | .ro d δ=>Q (.ro d δ)
noncomputable def oz (δ:Loc) (i:Nat) (s:Sl) (Q:Loc->Prop):Prop:=i < δ.length/\Q (δ.set i s)
noncomputable def zp (pre δ:Loc) (i:Nat) (s:Sl) (Q:Loc->Prop):Prop:=i < δ.length/\Q (pre.reverse++δ.set i s)
noncomputable def Lv (δ:Loc) (i:Nat) (s:Sl) (Q:Loc->Prop):Prop:=Q (δ.set i s)
noncomputable def qR (pre δ:Loc) (i:Nat) (s:Sl) (Q:Loc->Prop):Prop:=Q (pre.reverse++δ.set i s)
noncomputable def uw (pre δ:Loc) (Q:Loc->Prop):Prop:=Q (pre.reverse++δ)
noncomputable def zr (δ0:Loc) (j:Nat) (δ:Loc) (i:Nat) (Q:D->Loc->Prop):Prop:=match δ[i]? with
 | some (.val d)=>Q d δ0
 | some (.own ds)=>Q (.lst ds) (δ0.set j (.val (.lst ds)))
 | _=>False
noncomputable def qD (δ:Loc) (i:Nat) (Q:List D->Prop):Prop:=match δ[i]? with
 | some (.own ds)=>Q ds
 | _=>False
section
variable {cx:Cl} {δ pre:Loc}
theorem jk {ss:Ss} {Q:Out->Prop}:nW cx ss Q (.nx δ)↔wSs cx ss δ Q:=cA
theorem BV {ss:Ss} {Q:Out->Prop} {d:D}:nW cx ss Q (.rt d δ)↔Q (.rt d δ):=cA
theorem DK {n:Loc->Prop} {Q:Out->Prop}:ve n Q (.nx δ)↔n δ:=cA
theorem DJ {n:Loc->Prop} {Q:Out->Prop} {d:D}:ve n Q (.rt d δ)↔Q (.rt d δ):=cA
theorem Bo {i:Nat} {s:Sl} {Q:Loc->Prop}:oz δ i s Q↔zp [] δ i s Q:=cA
theorem zo {i:Nat} {s t:Sl} {Q:Loc->Prop}:zp pre (t::δ) (i+1) s Q↔zp (t::pre) δ i s Q:=by simp [zp]
theorem zm {s t:Sl} {Q:Loc->Prop}:zp pre (t::δ) 0 s Q↔uw pre (s::δ) Q:=by simp [zp,uw]
theorem Bs {i:Nat} {s:Sl} {Q:Loc->Prop}:Lv δ i s Q↔qR [] δ i s Q:=cA
theorem wc {i:Nat} {s t:Sl} {Q:Loc->Prop}:qR pre (t::δ) (i+1) s Q↔qR (t::pre) δ i s Q:=by simp [qR]
theorem wa {s t:Sl} {Q:Loc->Prop}:qR pre (t::δ) 0 s Q↔uw pre (s::δ) Q:=by simp [qR,uw]
theorem zu {t:Sl} {Q:Loc->Prop}:uw (t::pre) δ Q↔uw pre (t::δ) Q:=by simp [uw]
theorem Br {Q:Loc->Prop}:uw [] δ Q↔Q δ:=cA
theorem zq {δ0:Loc} {i j:Nat} {t:Sl} {Q:D->Loc->Prop}:zr δ0 j (t::δ) (i+1) Q↔zr δ0 j δ i Q:=cA
theorem Bj {δ0:Loc} {j:Nat} {d:D} {Q:D->Loc->Prop}:zr δ0 j (.val d::δ) 0 Q↔Q d δ0:=cA
theorem Bk {δ0:Loc} {j:Nat} {ds:List D} {Q:D->Loc->Prop}:zr δ0 j (.own ds::δ) 0 Q↔Lv δ0 j (.val (.lst ds)) fun δ1=>Q (.lst ds) δ1:=cA
theorem zx {i:Nat} {t:Sl} {Q:D->Prop}:sh (t::δ) (i+1) Q↔sh δ i Q:=cA
theorem BE {d:D} {Q:D->Prop}:sh (.val d::δ) 0 Q↔Q d:=yr
theorem BF {ds:List D} {Q:D->Prop}:sh (.own ds::δ) 0 Q↔Q (.lst ds):=yr
theorem zv {i:Nat} {t:Sl} {Q:List D->Prop}:qD (t::δ) (i+1) Q↔qD δ i Q:=cA
theorem Bt {ds:List D} {Q:List D->Prop}:qD (.own ds::δ) 0 Q↔Q ds:=cA
theorem Fq {i:Nat} {Q:D->Loc->Prop}:wE cx (.var i) δ Q↔zr δ i δ i Q:=by
 rw [Iv];unfold Eb zr PP.get demote
 cases h:δ[i]? with
 | none=>simp
 | some s=>cases s<;>simp
theorem hJ {Q:Out->Prop}:wSs cx .nil δ Q↔Q (.nx δ):=yr
theorem bD {s:S} {ss:Ss} {Q:Out->Prop}:wSs cx (.cons s ss) δ Q↔wS cx s δ (nW cx ss Q):=by
 unfold wSs wS;simp only [dH]
 cases evS cx s δ with
 | none=>exact yn (fun ⟨_,e,_⟩=>by cases e)
 | some o =>
   refine Iff.trans ?_ yr.symm
   cases o with
   | nx δ1=>exact cA
   | _=>exact yr
theorem vZ {tg:Tg} {e:E} {Q:Out->Prop}:wS cx (.asg tg e) δ Q↔wE cx e δ fun d δ1=>wTg δ1 tg d fun δ2=>Q (.nx δ2):=yb.trans (xc fun _ _=>yqs.trans (xd fun _=>yr))
theorem Ii {i:Nat} {d:D} {Q:Loc->Prop}:wTg δ (.nm i) d Q↔oz δ i (.val d) Q:=yi
theorem Bl {is:List Nat} {ds:List D} {Q:Loc->Prop}:wTg δ (.tp is) (.tup ds) Q↔(is.length = ds.length/\is.all (· < δ.length) = true)/\Q ((is.zip ds).foldl (fun δ p=>δ.set p.1 (.val p.2)) δ):=yi
theorem Io {i:Nat} {e:E} {Q:Out->Prop}:wS cx (.new i e) δ Q↔wE cx e δ fun d δ1=>∃ ds,d = .lst ds/\oz δ1 i (.own ds) fun δ2=>Q (.nx δ2):=yb.trans (xc fun x _=>by
 cases x with
 | lst k=>refine Iff.trans ?_ Eh.symm;exact yi
 | _=>exact yn fun ⟨_,e,_⟩=>by cases e)
noncomputable def Nb (x y:D) (Q:D->Prop):Prop:=∃ z,NU x y = some z/\Q z
theorem II {a b:Int} {Q:D->Prop}:Nb (.int a) (.int b) Q↔Q (.int (a+b)):=yr
theorem Bp {e:E} {Q:Out->Prop}:wS cx (.ret e) δ Q↔wE cx e δ fun d δ1=>Q (.rt d δ1):=yb.trans (xc fun _ _=>yr)
theorem vY {c:E} {a b:Ss} {Q:Out->Prop}:wS cx (.ifs c a b) δ Q↔wT cx c δ fun k δ1=>if k = true then wSs cx a δ1 Q else wSs cx b δ1 Q:=yb.trans (xc fun k _=>by cases k<;>exact cA)
theorem Ip {tg:Tg} {src:It} {body:Ss} {Q:Out->Prop}:wS cx (.for_ tg src body) δ Q↔wI cx src δ fun ds δ1=>lg cx tg body ds δ1 Q:=yb.trans (xc fun _ _=>cA)
theorem qQ {i:Nat} {e:E} {Q:Out->Prop}:wS cx (.append i e) δ Q↔qD δ i fun _=>wE cx e δ fun d δ1=>qD δ1 i fun ds=>ds.length < sizeLine/\oz δ1 i (.own (ds++[d])) fun δ2=>Q (.nx δ2):=by
 unfold wS qD;simp only [evS]
 cases δ[i]? with
 | none=>exact yn id
 | some s =>
   cases s with
   | own ds0 =>
     refine yb.trans (xc fun d δ1=>?_);dsimp only
     cases h1:δ1[i]? with
     | none=>exact yn id
     | some s =>
       cases s with
       | own ds=>exact yi.trans ⟨fun q=>⟨q.1,(aH.mp h1).1,q.2⟩,fun q=>⟨q.1,q.2.2⟩⟩
       | _=>exact yn id
   | _=>exact yn id
theorem zt {i:Nat} {e:E} {Q:Out->Prop}:wS cx (.extend i e) δ Q↔qD δ i fun _=>wE cx e δ fun d δ1=>∃ ys,d = .lst ys/\qD δ1 i fun ds=>ds.length+ys.length<=sizeLine/\oz δ1 i (.own (ds++ys)) fun δ2=>Q (.nx δ2):=by
 unfold wS qD;simp only [evS]
 cases δ[i]? with
 | none=>exact yn id
 | some s =>
   cases s with
   | own ds0 =>
     refine yb.trans (xc fun d δ1=>?_)
     cases d with
     | lst ys =>
       refine Iff.trans ?_ Eh.symm;dsimp only
       cases h1:δ1[i]? with
       | none=>exact yn id
       | some s =>
         cases s with
         | own ds=>exact yi.trans ⟨fun q=>⟨q.1,(aH.mp h1).1,q.2⟩,fun q=>⟨q.1,q.2.2⟩⟩
         | _=>exact yn id
     | _=>exact yn fun ⟨_,e,_⟩=>by cases e
   | _=>exact yn id
theorem fZ {tg:Tg} {body:Ss} {Q:Out->Prop}:lg cx tg body [] δ Q↔Q (.nx δ):=yr
theorem fi {tg:Tg} {body:Ss} {x:D} {xs:List D} {Q:Out->Prop}:lg cx tg body (x::xs) δ Q↔wTg δ tg x fun δ2=>wSs cx body δ2 (ve (fun δ3=>lg cx tg body xs δ3 Q) Q):=by
 unfold lg wTg wSs;simp only [forL,Kz]
 cases dv δ tg x with
 | none=>exact yn (fun ⟨_,e,_⟩=>by cases e)
 | some δ2 =>
   refine Iff.trans ?_ yr.symm;dsimp only
   cases dH cx body δ2 with
   | none=>exact yn (fun ⟨_,e,_⟩=>by cases e)
   | some o =>
     refine Iff.trans ?_ yr.symm
     cases o with
     | nx δ1=>exact cA
     | _=>exact yr
theorem kq {tg:Tg} {body:Ss} {Q:Out->Prop} (P:List D->Loc->Prop) (step:∀ x xs δ,P (x::xs) δ->wTg δ tg x fun δ2=>wSs cx body δ2 (ve (P xs) Q)) (fin:∀ δ,P [] δ->Q (.nx δ)):∀ (ds:List D) (δ:Loc),P ds δ->lg cx tg body ds δ Q
 | [],δ,h=>fZ.mpr (fin δ h)
 | x::xs,δ,h=>by
   rw [fi];obtain ⟨δ2,e,o,e2,q⟩:=step x xs δ h;refine ⟨δ2,e,o,e2,?_⟩
   cases o with
   | nx δ1=>exact kq P step fin xs δ1 q
   | rt d δ1=>exact q
   | ro d δ1=>exact q
theorem pE {k:Nat} {tg:Tg} {ifs:Eo} {elt:E} {Q:List D->Loc->Prop} (P:D->D->Prop):∀ (ds:List D),(∀ x∈ds,wTg (δ++aN k .no) tg x fun δ2=>wG cx ifs δ2 fun b δ3=>b = true/\wE cx elt δ3 fun y δ4=>P x y/\δ4.take δ.length = δ) ->
 (∀ ys,PySem.Paired P ds ys->Q ys δ)->ly cx k tg ifs elt ds δ Q
 | [],h,q=>fQ.mpr (q [] .nil)
 | x::xs,h,q=>by
   rw [eY];obtain ⟨δ2,e,b,δ3,e2,rfl,y,δ4,e3,p,t⟩:=h x ay;refine ⟨δ2,e,true,δ3,e2,?_⟩;show if true = true then _ else _
   rw [if_pos rfl];refine ⟨y,δ4,e3,?_⟩;show ly cx k tg ifs elt xs (δ4.take δ.length) _;rw [t];exact pE P xs (fun z hz=>h z (au _ hz)) fun ys r=>q (y::ys) (.cons p r)
end
theorem BC {a b:Int} {Q:D->Prop}:wOp .add (.int a) (.int b) Q↔Q (.int (a+b)):=yr
theorem Bu {a b:Int} {Q:D->Prop}:wOp .sub (.int a) (.int b) Q↔Q (.int (a - b)):=yr
theorem Bw {a b:Int} {Q:D->Prop}:wOp .mul (.int a) (.int b) Q↔rD a b = true/\Q (.int (a * b)):=yi
theorem Bx {a b:Int} {Q:D->Prop}:wOp .mod (.int a) (.int b) Q↔0 < b/\Q (.int (a % b)):=yi
theorem zw {a b:Int} {Q:D->Prop}:wOp .fdiv (.int a) (.int b) Q↔(0 < b/\b < 1000000000000000000000000000000000000000000000000000000000000)/\Q (.int (a / b)):=yi
theorem Bz {a b:Str} {Q:D->Prop}:wOp .add (.str a) (.str b) Q↔a.length+b.length<=sizeLine/\Q (.str (a++b)):=yi
theorem Bv {a:Str} {b:Int} {Q:D->Prop}:wOp .mul (.str a) (.int b) Q↔(0<=b/\b<=1000/\a.length<=1000)/\Q (.str (wD a b.toNat)):=yi
theorem By {x:D} {a b:List D} {Q:D->Prop}:wOp .add (.tup (x::a)) (.tup b) Q↔(x::a).length+b.length<=sizeLine/\Q (.tup (x::a++b)):=yi
theorem BB {a b:List D} {Q:D->Prop}:wOp .add (.lst a) (.lst b) Q↔a.length+b.length<=sizeLine/\Q (.lst (a++b)):=yi
theorem Ft {a b:Int} {Q:Bool->Prop}:jj .lt (.int a) (.int b) Q↔Q (decide (a < b)):=yr
theorem Fu {a b:Int} {Q:Bool->Prop}:jj .gt (.int a) (.int b) Q↔Q (decide (b < a)):=yr
theorem BN {a b:Int} {Q:Bool->Prop}:jj .eq (.int a) (.int b) Q↔Q (decide (a = b)):=yr
theorem BL {a b:Str} {Q:Bool->Prop}:jj .eq (.str a) (.str b) Q↔Q (a == b):=yr
theorem uA {a:D} {ds:List D} {Q:Bool->Prop}:jj .isin a (.tup ds) Q↔(dep a<=150/\cN ds < 99999)/\Q (ds.any fun y=>eqD y a):=yi
theorem qT {ds:List D} {Q:D->Prop}:ng .len [.lst ds] Q↔Q (.int ds.length):=yr
theorem qS {ds:List D} {Q:D->Prop}:ng .len [.tup ds] Q↔Q (.int ds.length):=yr
theorem zG {b:Bool} {Q:D->Prop}:ng .toInt [.bl b] Q↔Q (.int (if b then 1 else 0)):=yr
theorem BO {i:Int} {Q:D->Prop}:ng .toStr [.int i] Q↔i.natAbs.log2 < 1920/\Q (.str (toString i)):=yi
theorem zC {ds:List D} {Q:D->Prop}:ng .toTup [.lst ds] Q↔Q (.tup ds):=yr
theorem zE {ds:List D} {Q:D->Prop}:ng .toLst [.lst ds] Q↔Q (.lst ds):=yr
theorem zD {ds:List D} {Q:D->Prop}:ng .toLst [.tup ds] Q↔Q (.lst ds):=yr
theorem uB {ds:List D} {Q:D->Prop}:ng .sorted [.lst ds] Q↔sortable ds = true/\Q (.lst (eO ds)):=yi
theorem sk {i:Int} {Q:D->Prop}:ng .isBool [.int i] Q↔Q (.bl false):=yr
theorem vW {b:Bool} {Q:Bool->Prop}:wTv (.bl b) Q↔Q b:=yr
theorem Fi {ds:List D} {Q:Bool->Prop}:wTv (.lst ds) Q↔Q (!ds.isEmpty):=yr
theorem Fo {ds:List D} {i:Int} {Q:D->Prop}:wIx (.lst ds) (.int i) Q↔∃ d,L2.atI ds i = some d/\Q d:=cA
theorem iw {d:D} {ds:List D} {Q:D->Prop}:wIx (.tup (d::ds)) (.int 0) Q↔Q d:=by
 simp [wIx,ixD,L2.atI,L2.ixN]
theorem we {ds:List D} {Q:List D->Prop}:wItems (.lst ds) Q↔Q ds:=yr
theorem wd {ds:List D} {Q:List D->Prop}:wItems (.tup ds) Q↔Q ds:=yr
noncomputable def fh (G:List Fd) (gl:List D) (n i:Nat) (ds:List D) (Q:D->Prop):Prop:=∃ d,PP.run G gl n i ds = some d/\Q d
noncomputable def retS (Q:D->Prop):Out->Prop
 | .rt d _=>Q d
 | .nx _=>Q .non
 | .ro d _=>Q d
theorem bw {G:List Fd} {gl:List D} {n i:Nat} {ds:List D} {P Q:D->Prop} (h:fh G gl n i ds P) (k:∀ d,P d->Q d):fh G gl n i ds Q:=by
 obtain ⟨d,e,p⟩:=h;exact ⟨d,e,k d p⟩
theorem aL {G:List Fd} {gl:List D} {n i:Nat} {ds:List D} {Q:D->Prop} (fd:Fd) (h:G[i]? = some fd) (hl:ds.length = fd.ps.length) (hf:fd.hf = false) (q:wSs ⟨PP.run G gl n,gl,hfs G⟩ fd.body (init (fd.ps++fd.loc).length ds) (retS Q)):fh G gl (n+1) i ds Q:=by
 obtain ⟨o,e,q⟩:=q;unfold fh
 have:PP.run G gl (n+1) i ds = outD (dH ⟨PP.run G gl n,gl,hfs G⟩ fd.body (init (fd.ps++fd.loc).length ds)):=by
  conv=>lhs;unfold PP.run
  rw [h];dsimp only;rw [if_pos hl,hf];rfl
 rw [this,e]
 cases o with
 | rt d δ=>exact ⟨d,rfl,q⟩
 | ro d δ=>exact ⟨d,rfl,q⟩
 | nx δ=>exact ⟨.non,rfl,q⟩
theorem mZ {G:List Fd} {gl:List D} {n f:Nat} {ds:List D} {Q:D->Prop}:mf ⟨PP.run G gl n,gl,hfs G⟩ f ds Q↔fh G gl n f ds Q:=cA
theorem FY {Q:D->Prop} {d:D} {δ:Loc}:retS Q (.rt d δ)↔Q d:=cA
theorem Fn {x:Str} {i:Int} {Q:D->Prop}:wIx (.str x) (.int i) Q↔x.length<=sizeLine/\∃ c,L2.atI x.cps.toList i = some c/\Q (.str ⟨#[c]⟩):=by
 unfold wIx ixD;dsimp only;constructor
 . rintro ⟨z,e,q⟩;split at e
   . rw [aI] at e;obtain ⟨c,e,rfl⟩:=e;exact ⟨‹_›,c,e,q⟩
   . cases e
 . rintro ⟨h,c,e,q⟩;exact ⟨_,by rw [if_pos h,e];rfl,q⟩
theorem aK {G:List Fd} {gl:List D} {n i:Nat} {ds:List D} {d:D} {Q:D->Prop} (h:PP.run G gl n i ds = some d):fh G gl n i ds Q↔Q d:=by
 unfold fh;rw [h];exact ⟨fun ⟨_,e,q⟩=>by cases e;exact q,fun q=>⟨d,rfl,q⟩⟩
theorem aX {G:List Fd} {gl:List D} {n i:Nat} {ds:List D} {d:D} (h:fh G gl n i ds fun x=>x = d):PP.run G gl n i ds = some d:=by
 obtain ⟨x,e,rfl⟩:=h;exact e
theorem mN {α:Type} {ds:List α} {j:Int} (h0:0<=j) (h1:j < ds.length):∃ d,d∈ds/\L2.atI ds j = some d:=by
 have hk:j.toNat < ds.length:=by omega
 refine ⟨ds[j.toNat],ke hk,?_⟩;have:=L2.atI_nat (xs:=ds) (j:=j.toNat) (v:=ds[j.toNat]) (az hk)
 rwa [show ((j.toNat:Nat):Int) = j by omega] at this
theorem mul_r {a b:Int} (h0:-(2 ^ 64) < b) (h1:b < 2 ^ 64):rD a b = true:=by
 unfold rD;simp only [decide_eq_true h0,decide_eq_true h1,jF,ox,iM]
theorem small {n:Nat} (h:n<=1000):n<=sizeLine:=iR (dt h (by decide))
theorem str_len (x:Str):x.cps.toList.length = x.length:=by
 show x.cps.toList.length = x.cps.size;simp
theorem sF {lo:Int} {n:Nat} {x:D} (h:x∈sH lo n):∃ i:Nat,i < n/\x = .int (lo+i):=by
 unfold sH at h;rw [bx] at h;obtain ⟨i,hi,rfl⟩:=h;exact ⟨i,by simpa using hi,rfl⟩
theorem sG {lo:Int} {n:Nat}:(sH lo n).length = n:=by simp [sH]
theorem ux {a b:D} {ds:List D} {Q:D->Prop}:wIx (.tup (a::b::ds)) (.int 1) Q↔Q b:=by
 have:L2.atI (a::b::ds) 1 = some b:=L2.atI_nat (j:=1) rfl;simp [wIx,ixD,this]
theorem BD {a b c:D} {ds:List D} {Q:D->Prop}:wIx (.tup (a::b::c::ds)) (.int 2) Q↔Q c:=by
 have:L2.atI (a::b::c::ds) 2 = some c:=L2.atI_nat (j:=2) rfl;simp [wIx,ixD,this]
theorem me {δ:Loc} {i j:Nat} {a b:D} {Q:Loc->Prop}:wTg δ (.tp [i,j]) (.tup [a,b]) Q↔oz δ i (.val a) fun δ1=>oz δ1 j (.val b) Q:=by
 rw [Bl];unfold oz;simp only [fU,oj,bR,jE,aa,decide_eq_true_eq];exact ⟨fun ⟨⟨_,h1,h2⟩,q⟩=>⟨h1,h2,q⟩,fun ⟨h1,h2,q⟩=>⟨⟨rfl,h1,h2⟩,q⟩⟩
theorem Fj {δ:Loc} {i j k:Nat} {a b c:D} {Q:Loc->Prop}:wTg δ (.tp [i,j,k]) (.tup [a,b,c]) Q↔oz δ i (.val a) fun δ1=>oz δ1 j (.val b) fun δ2=>oz δ2 k (.val c) Q:=by
 rw [Bl];unfold oz;simp only [fU,oj,bR,jE,aa,decide_eq_true_eq];exact ⟨fun ⟨⟨_,h1,h2,h3⟩,q⟩=>⟨h1,h2,h3,q⟩,fun ⟨h1,h2,h3,q⟩=>⟨⟨rfl,h1,h2,h3⟩,q⟩⟩
noncomputable def SI:=ar (@aU.{0,0}) (ar (@iL.{0,0}) (ar (@fH.{0}) (ar (@cQ.{0}) (ar (@bS.{0}) (ar (@ak.{0}) (ar (@ax.{0}) (ar (@AQ.{0}) (@List.replicate_zero.{0}))))))))
theorem WI:(∀ a b:Prop,(if True then a else b) = a)/\(∀ a b:Prop,(if False then a else b) = b)/\((false = true) = False)/\∀ (p:Prop) [Decidable p],(decide p = true) = p:=⟨fun _ _=>if_pos trivial,fun _ _=>if_neg id,by simp,fun p _=>by simp⟩
noncomputable def WS:=ar (@LA) (ar (@ID) (ar (@LD) (ar (@Iy) (ar (@IG) (ar (@IE) (ar (@Il) (ar (@IH) (ar (@Iz) (ar (@IA) (ar (@Im) (ar (@Lu) (ar (@Ik) (ar (@Ij) (ar (@Fl) (ar (@IC) (ar (@Iw) (ar (@IB) (ar (@LB) (ar (@Lz) (ar (@sj) (ar (@IF) (ar (@uy) (ar (@Fp) (ar (@BH) (ar (@Lw) (ar (@Iq) (ar (@Ly) (ar (@Iu) (ar (@Ir) (ar (@Lx) (ar (@Fs) (ar (@jk) (ar (@BV) (ar (@DK) (ar (@DJ) (ar (@Bo) (ar (@zo) (ar (@zm) (ar (@Bs) (ar (@wc) (ar (@wa) (ar (@zu) (ar (@Br) (ar (@zq) (ar (@Bj) (ar (@Bk) (ar (@zx) (ar (@BE) (ar (@BF) (ar (@zv) (ar (@Bt) (ar (@Fq) (ar (@hJ) (ar (@bD) (ar (@vZ) (ar (@Ii) (ar (@Io) (ar (@II) (ar (@Bp) (ar (@vY) (ar (@Ip) (ar (@qQ) (ar (@zt) (ar (@BC) (ar (@Bu) (ar (@Bw) (ar (@Bx) (ar (@zw) (ar (@Bz) (ar (@Bv) (ar (@By) (ar (@BB) (ar (@Ft) (ar (@Fu) (ar (@BN) (ar (@BL) (ar (@uA) (ar (@qT) (ar (@qS) (ar (@zG) (ar (@BO) (ar (@zC) (ar (@zE) (ar (@zD) (ar (@uB) (ar (@sk) (ar (@vW) (ar (@Fi) (ar (@Fo) (ar (@iw) (ar (@we) (ar (@wd) (ar (@mZ) (ar (@FY) (ar (@Fn) (ar (@KA) (ar (@yH) (ar (@Eh) (ar (@ux) (ar (@BD) (ar (@me) (ar (@Fj) (mU)))))))))))))))))))))))))))))))))))))))))))))))))))))))))))))))))))))))))))))))))))))))))))))))))))))))
theorem rQ {α:Type} (e:∀ i j,i < n->j < n->lt i j = lt' i j):∀ (t:PySem.W.KasT α),inR lt n t->ans lt t = ans lt' t
 | .ret a,_=>rfl
 | .ask i j k,h=>by
   unfold inR at h;rw [fq,fq,<- e i j h.1 h.2.1];exact rQ e _ h.2.2
theorem qZ {α β:Type} (d:α) (f:α->β) (xs:List α):(bC xs.length).map (fun i=>f (xs.getD i d)) = xs.map f:=by
 apply List.ext_getElem
 . simp
 . intro i h1 h2;simp only [ao] at h2;simp [lV,az h2]
theorem BZ {α:Type} [Inhabited α] (g:α->D) (lt:α->α->Bool) (hlt:∀ x y,oC (g x) (g y) = some (lt x y)) (as:∀ a b,lt a b = true->lt b a = false) (tr:∀ a b c,lt b a = false->lt c b = false->lt c a = false) (xs:List α) :
 ∃ ys:List α,eO (xs.map g) = ys.map g/\ys.Perm xs/\∀ i j,i<=j->j < ys.length->lt (ys.getD j default) (ys.getD i default) = false:=by
 have rf:∀ a,lt a a = false:=fun a=>by
  cases e:lt a a with
  | false=>rfl
  | true=>rw [as a a e] at e;cases e
 unfold eO;rw [ao];split
 . rename_i h;refine ⟨xs,rfl,List.Perm.refl _,fun i j h1 h2=>?_⟩;have:i = j:=by omega
   subst this;exact rf _
 . rename_i h
   have hg:∀ i,i < xs.length->(xs.map g).getD i .non = g (xs.getD i default):=fun i hi=>by
    simp [lV,az hi]
   have e:ans (iG (xs.map g)) (PySem.W.kas_sort xs.length) = ans (fun i j=>lt (xs.getD i default) (xs.getD j default)) (PySem.W.kas_sort xs.length):=by
    refine rQ (n:=xs.length) (fun i j hi hj=>?_) _ (xR (by omega));unfold iG;rw [hg i hi,hg j hj,hlt];rfl
   rw [e];obtain ⟨z,p,u⟩:=FE (lt:=fun i j=>lt (xs.getD i default) (xs.getD j default)) ⟨fun a b=>as _ _,fun a b c=>tr _ _ _⟩ xs.length (by omega);have pl:(ans (fun i j=>lt (xs.getD i default) (xs.getD j default)) (PySem.W.kas_sort xs.length)).toList.Perm (bC xs.length):=(letI:Tbs:=⟨[],[],[]⟩;gi _);generalize ans (fun i j=>lt (xs.getD i default) (xs.getD j default)) (PySem.W.kas_sort xs.length) = r at z p u pl ⊢;refine ⟨r.toList.map fun i=>xs.getD i default,?_,?_,fun i j h1 h2=>?_⟩
   . rw [vT];refine ma fun i hi=>?_;exact hg i (by simpa using pl.mem_iff.mp hi)
   . have:=pl.map fun i=>xs.getD i default
     rwa [show (bC xs.length).map (fun i=>xs.getD i default) = xs from by simpa using qZ default id xs] at this
   . rw [ao,bp,z] at h2
     have hr:∀ k,k < xs.length->(r.toList.map fun i=>xs.getD i default).getD k default = xs.getD (r.getD k 0) default:=fun k hk=>by
      have hk':k < r.toList.length:=by rw [bp,z];exact hk
      have hk2:k < r.size:=by rw [z];exact hk
      simp [lV,hk2,Array.getD]
     rw [hr i (by omega),hr j h2];exact u i j h1 h2
section
variable {cx:Cl} {δ:Loc}
theorem ir {α:Type} (g:α->D) (p:α->Bool) (h:α->D):∀ (xs:List α),(∀ x∈xs,wTg (δ++aN k .no) tg (g x) fun δ2=>wG cx ifs δ2 fun b δ3=>b = p x/\if b = true then wE cx elt δ3 fun y δ4=>y = h x/\δ4.take δ.length = δ else δ3.take δ.length = δ) ->
 Q ((xs.filter p).map h) δ->ly cx k tg ifs elt (xs.map g) δ Q
 | [],_,q=>fQ.mpr q
 | x::xs,hx,q=>by
   rw [aU,eY];obtain ⟨δ2,e,b,δ3,e2,rfl,e3⟩:=hx x ay;refine ⟨δ2,e,_,δ3,e2,?_⟩
   cases hp:p x with
   | true =>
     rw [hp,if_pos rfl] at e3;obtain ⟨y,δ4,e4,rfl,t⟩:=e3;rw [if_pos rfl];refine ⟨_,δ4,e4,?_⟩;show ly cx k tg ifs elt _ (δ4.take δ.length) _;rw [t];refine ir g p h xs (fun z hz=>hx z (au _ hz)) ?_;rw [vP hp] at q
     exact q
   | false =>
     rw [hp,if_neg aq] at e3;rw [if_neg aq,e3];refine ir g p h xs (fun z hz=>hx z (au _ hz)) ?_;rw [vQ (by simp [hp])] at q;exact q
theorem gb {α:Type} (g:α->D) (P:List α->Loc->Prop) (step:∀ x xs δ,P (x::xs) δ->wTg δ tg (g x) fun δ2=>wSs cx body δ2 (ve (P xs) Q)) (fin:∀ δ,P [] δ->Q (.nx δ)) (xs:List α) (δ:Loc) (h:P xs δ):lg cx tg body (xs.map g) δ Q:=by
 induction xs generalizing δ with
 | nil=>exact fZ.mpr (fin δ h)
 | cons x xs ih =>
   rw [aU,fi];obtain ⟨δ2,e,o,e2,q⟩:=step x xs δ h;refine ⟨δ2,e,o,e2,?_⟩
   cases o with
   | nx δ3=>exact ih δ3 q
   | rt d δ3=>exact q
   | ro d δ3=>exact q
end
noncomputable def si (δ:Loc) (i:Nat) (Q:Nat->List D->Prop):Prop:=match δ[i]? with
 | some (.fnc k cs)=>Q k cs
 | _=>False
noncomputable def pF (δ:Loc) (caps:List Nat) (Q:List D->Prop):Prop:=∃ cs,lA δ caps = some cs/\Q cs
section
variable {cx:Cl} {δ:Loc}
theorem zy {i:Nat} {t:Sl} {Q:Nat->List D->Prop}:si (t::δ) (i+1) Q↔si δ i Q:=by simp [si]
theorem BG {k:Nat} {cs:List D} {Q:Nat->List D->Prop}:si (.fnc k cs::δ) 0 Q↔Q k cs:=by simp [si]
theorem zB {Q:List D->Prop}:pF δ [] Q↔Q []:=by simp [pF,lA]
theorem wg {i:Nat} {r:List Nat} {Q:List D->Prop}:pF δ (i::r) Q↔sh δ i fun d=>flat d = true/\pF δ r fun cs=>Q (d::cs):=by
 unfold pF sh;constructor
 . rintro ⟨cs,e,q⟩;unfold lA at e
   cases h:PP.get δ i with
   | none=>rw [h] at e;cases e
   | some d =>
     rw [h] at e;dsimp only at e;split at e
     . rw [aI] at e;obtain ⟨x,e,rfl⟩:=e;exact ⟨d,rfl,‹_›,x,e,q⟩
     . cases e
 . rintro ⟨d,h,f,cs,e,q⟩;refine ⟨d::cs,?_,q⟩;unfold lA;rw [h];dsimp only;rw [if_pos f,e];rfl
theorem mB:lfO o = some d↔o = some d/\lf d = true:=by
 cases o with
 | none=>simp [lfO]
 | some r =>
   unfold lfO;dsimp only;split
   . rename_i h;constructor
     . intro e;cases e;exact ⟨rfl,h⟩
     . intro e;exact e.1
   . rename_i h;constructor
     . intro e;cases e
     . rintro ⟨e,z⟩;cases e;exact absurd z h
theorem BI {i:Nat} {es:Es} {Q:D->Loc->Prop}:wE cx (.callv i es) δ Q↔si δ i fun k cs=>wEs cx es δ fun ds δ1=>lfL ds = true/\mf cx k (ds++cs) fun z=>lf z = true/\Q z δ1:=by
 unfold wE wEs mf si;simp only [evE,ag,ae,Prod.exists];constructor
 . rintro ⟨d,δ',⟨ds,δ1,h1,e⟩,q⟩;split at e
   . rename_i h
     (try rw [h])
     split at e
     . rw [aI] at e;obtain ⟨r,e,e2⟩:=e;cases e2;rw [mB] at e;exact ⟨ds,_,h1,‹_›,d,e.1,e.2,q⟩
     . cases e
   . cases e
 . intro h;split at h
   . rename_i k cs hk;obtain ⟨ds,δ1,h1,h2,z,h3,h4,q⟩:=h;refine ⟨z,δ1,⟨ds,δ1,h1,?_⟩,q⟩
     (try rw [hk])
     (try dsimp only)
     rw [if_pos h2,mB.mpr ⟨h3,h4⟩];rfl
   . exact h.elim
theorem BJ {f i:Nat} {es:Es} {Q:D->Loc->Prop}:wE cx (.callF f es i) δ Q↔wEs cx es δ fun ds δ1=>si δ1 i fun k cs=>cx.hf f = true/\mf cx f (ds++[.fn k cs]) fun z=>Q z δ1:=by
 unfold wE wEs mf si;simp only [evE,ag,ae,Prod.exists];constructor
 . rintro ⟨d,δ',⟨ds,δ1,h1,e⟩,q⟩;refine ⟨ds,δ1,h1,?_⟩;split at e
   . rename_i h
     (try rw [h])
     split at e
     . rw [aI] at e;obtain ⟨r,e,e2⟩:=e;cases e2;exact ⟨‹_›,d,e,q⟩
     . cases e
   . cases e
 . rintro ⟨ds,δ1,h1,h⟩;split at h
   . rename_i k cs hk;obtain ⟨h2,z,h3,q⟩:=h;refine ⟨z,δ1,⟨ds,δ1,h1,?_⟩,q⟩
     (try rw [hk])
     (try dsimp only)
     rw [if_pos h2,h3];rfl
   . exact h.elim
theorem Fm {f k:Nat} {es:Es} {caps:List Nat} {Q:Out->Prop}:wS cx (.retL f es k caps) δ Q↔wEs cx es δ fun ds δ1=>pF δ1 caps fun cs=>cx.hf f = true/\mf cx f (ds++[.fn k cs]) fun z=>lf z = true/\Q (.rt z δ1):=by
 unfold wS wEs mf pF;simp only [evS,ag,ae,Prod.exists];constructor
 . rintro ⟨o,⟨ds,δ1,h1,cs,h2,e⟩,q⟩;refine ⟨ds,δ1,h1,cs,h2,?_⟩;split at e
   . rw [aI] at e;obtain ⟨r,e,e2⟩:=e;cases e2;rw [mB] at e;exact ⟨‹_›,r,e.1,e.2,q⟩
   . cases e
 . rintro ⟨ds,δ1,h1,cs,h2,h3,z,h4,h5,q⟩;refine ⟨_,⟨ds,δ1,h1,cs,h2,?_⟩,q⟩;rw [if_pos h3,mB.mpr ⟨h4,h5⟩];rfl
end
theorem zF:ng .toInt [.str x] Q↔x.length<=640/\∃ n,PySem.intText? x = some n/\Q (.int n):=by
 unfold ng;simp only [kF,pH];constructor
 . rintro ⟨z,e,q⟩;split at e
   . rw [aI] at e;obtain ⟨n,e1,rfl⟩:=e;exact ⟨‹_›,n,e1,q⟩
   . cases e
 . rintro ⟨h,n,e,q⟩;exact ⟨.int n,by rw [if_pos h,e];rfl,q⟩
theorem mY (fd:Fd) (h:G[i]? = some fd) (hl:ds.length = fd.ps.length) (hf:fd.hf = true) (he:entry true (fd.ps++fd.loc).length ds = some δ) (q:wSs ⟨PP.run G gl n,gl,hfs G⟩ fd.body δ (retS Q)):fh G gl (n+1) i ds Q:=by
 obtain ⟨o,e,q⟩:=q;unfold fh
 have:PP.run G gl (n+1) i ds = outD (dH ⟨PP.run G gl n,gl,hfs G⟩ fd.body δ):=by
  conv=>lhs;unfold PP.run
  rw [h];dsimp only;rw [if_pos hl,hf,he]
 rw [this,e]
 cases o with
 | rt d δ=>exact ⟨d,rfl,q⟩
 | ro d δ=>exact ⟨d,rfl,q⟩
 | nx δ=>exact ⟨.non,rfl,q⟩
noncomputable def WC:=ar (@BI) (ar (@BJ) (ar (@Fm) (ar (@zy) (ar (@BG) (ar (@zB) (@wg))))))
section
variable {cx:Cl} {δ:Loc}
theorem sf:wS cx (.forZ tg es body) δ Q↔wEs cx es δ fun ds δ1=>∃ x y xs ys,ds = [x,y]/\CC x = some xs/\CC y = some ys/\lg cx tg body (jf xs ys) δ1 Q:=by
 unfold wS wEs lg Kz;simp only [evS,ag,ae,Prod.exists];constructor
 . rintro ⟨o,⟨ds,δ1,h1,e⟩,q⟩;split at e
   . split at e
     . exact ⟨_,_,h1,_,_,_,_,rfl,‹_›,‹_›,o,e,q⟩
     . cases e
   . cases e
 . rintro ⟨ds,δ1,h1,x,y,xs,ys,rfl,e1,e2,o,e,q⟩;exact ⟨o,⟨_,_,h1,by dsimp only;rw [e1,e2];exact e⟩,q⟩
end
end PP
end
section
namespace PP
open PySem L2 PyProof.Rows
theorem GU (t:iQ) (es:Array (Int × af)) (h:Int) (x:af):(layNew t es h x).2.1.led = t.led:=by
 unfold layNew;split
 . dsimp only;unfold SetTable.orStandIn;split<;>rfl
 . rfl
theorem Ar (t:iQ) (es:Array (Int × af)) (m:Nat):(relayAll t es m).2.1.led = t.led:=by
 unfold relayAll;split
 . rename_i t' order h;dsimp only;split
   . unfold AL SetTable.laid at h;simp only [ag,ae,dA] at h;obtain ⟨_,_,e⟩:=h;cases e;rfl
   . rfl
 . rfl
theorem uU (t:iQ) (es:Array (Int × af)) (m:Nat) (hp:t.plain = false):(relayAll t es m).2.1.plain = false:=by
 unfold relayAll;split
 . rename_i t' order h;dsimp only;split
   . unfold AL SetTable.laid at h;simp only [ag,ae,dA] at h;obtain ⟨_,_,e⟩:=h;cases e;exact hp
   . rfl
 . rfl
noncomputable def xw (P:aM) (w:bj) (us:List Str) (es:List (Int × af)):Prop:=ElemsOf (strKind P w) es/\Paired (fun (u:Str) (e:Int × af)=>∃ tk,e.2 = .str u tk) us es
noncomputable def nM (P:aM) (w:bj) (a:av) (ts:List Str) (h:bJ):Prop:=∃ (es:Array (Int × af)) (ep:Nat) (t:iQ) (us:List Str),
 h.get? a = some { cls:=.type "set",dict:=none,data:=.set es ep t,slots := #[] }/\t.fits es.size = true/\t.led = (!w.params.followText "set-order")/\(es.size = 0\/t.plain = false)/\us.Perm ts/\xw P w us es.toList
section
variable {prog:aM} {w:bj} {A:ba} {E:af->ai->Prop} {s:ai}
theorem isStr_of:(strKind prog w).is x (.str u tk) = decide (u = x):=by
 show uj x (.str u tk) = _;unfold uj;by_cases h:u = x
 . subst h;simp
 . simp [h]
theorem find_none:∀ {us:List Str} {es:List (Int × af)},Paired (fun (u:Str) (e:Int × af)=>∃ tk,e.2 = .str u tk) us es->(es.findIdx? (fun e=>(strKind prog w).is x e.2) = none↔x∉us)
 | _,_,.nil=>by simp
 | _,_,.cons (a:=u) (b:=e) r t=>by
   obtain ⟨tk,hr⟩:=r;rw [AY,hr,isStr_of,aC];by_cases h:u = x
   . subst h;simp
   . simp [h,find_none (x:=x) t,Ne.symm h]
theorem rH (h:xw prog w us es) (p:Fe es' es):∃ us',us'.Perm us/\xw prog w us' es':=by
 obtain ⟨h1,h2⟩:=h
 suffices q:∀ {es' es:List (Int × af)},Fe es' es->∀ us,Paired (fun (u:Str) (e:Int × af)=>∃ tk,e.2 = .str u tk) us es->∃ us',us'.Perm us/\Paired (fun (u:Str) (e:Int × af)=>∃ tk,e.2 = .str u tk) us' es' by
  obtain ⟨us',p',r⟩:=q p us h2;exact ⟨us',p',h1.perm p,r⟩
 intro es' es p
 induction p with
 | nil=>intro us r;exact ⟨us,.refl _,r⟩
 | cons x _ ih =>
   intro us r
   cases r with
   | cons r t =>
     obtain ⟨us',p',r'⟩:=ih _ t
     exact ⟨_,p'.cons _,.cons r r'⟩
 | swap x y l =>
   intro us r
   cases r with
   | cons r1 t =>
     cases t with
     | cons r2 t=>exact ⟨_,.swap _ _ _,.cons r2 (.cons r1 t)⟩
 | trans _ _ i1 i2 =>
   intro us r;obtain ⟨u1,p1,r1⟩:=i2 us r;obtain ⟨u2,p2,r2⟩:=i1 u1 r1;exact ⟨u2,p2.trans p1,r2⟩
theorem Ay (h:xw prog w us es) (x:Str) (tk:Tok):xw prog w (us++[x]) (es++[((strKind prog w).hash x,.str x tk)]):=by
 refine ⟨h.1.push (isStr_of.trans (decide_eq_true rfl)) rfl,?_⟩
 have:∀ {us:List Str} {es:List (Int × af)},Paired (fun (u:Str) (e:Int × af)=>∃ tk,e.2 = .str u tk) us es->Paired (fun (u:Str) (e:Int × af)=>∃ tk,e.2 = .str u tk) (us++[x]) (es++[((strKind prog w).hash x,.str x tk)]):=by
  intro us es r
  induction r with
  | nil=>exact .cons ⟨tk,rfl⟩ .nil
  | cons r _ ih=>exact .cons r ih
 exact this h.2
theorem kD {us:List Str} {es:List (Int × af)} (h:xw prog w us es):es.length = us.length:=by
 have r:=h.2;clear h
 induction r with
 | nil=>rfl
 | cons _ _ ih=>simp [ih]
theorem xV {a:av} {es es':Array (Int × af)} {ep:Nat} {t t':iQ} {h:bJ} (g:h.get? a = some { cls:=.type "set",dict:=none,data:=.set es ep t,slots := #[] }) :
 (h.update a (ES es' t')).get? a = some { cls:=.type "set",dict:=none,data:=.set es' (ep+1) t',slots := #[] }:=eX (ES es' t') g rfl
theorem set_tail {g:Bool->Sem Unit} (hg:∀ (b:Bool) (s1:ai) (Q':Unit->ai->Prop),Q' () s1->wpAny (model prog w) A (g b) Q' E s1) {a:av} {es es1:Array (Int × af)} {ep:Nat} {t t2:iQ} {ts us1:List Str}
 (k:s.heap.get? a = some { cls:=.type "set",dict:=none,data:=.set es ep t,slots := #[] }) (e1:xw prog w us1 es1.toList) (q1:us1.Perm ts) (z:ts.length < scanBound) (f2:t2.fits es1.size = true) (l2:t2.led = (!w.params.followText "set-order")) (p2:t2.plain = false)
 {dm:Bool} {R:Option Bool->ai->Prop} (h:∀ h',fI a s.heap h'->nM prog w a ts h'->R (some true) { s with heap:=h' }) :
 wpAny (model prog w) A (do
  storeSet a es1 t2
  if (!dm && t2.tooFull) = true then do
   g (relayAll t2 es1 (dN es1.size)).2.2
   storeSet a (relayAll t2 es1 (dN es1.size)).1 (relayAll t2 es1 (dN es1.size)).2.1
   pure (some true)
  else pure (some true)) R E s:=by
 have z1:es1.size < scanBound:=by rw [<- bp,kD e1,q1.length_eq];exact z
 have k1:=xV (es':=es1) (t':=t2) k;have sb1:=bO s.heap a (ES es1 t2);refine ab (Li k rfl ?_ (Lp z1));split
 . have pr:=relayAll_perm t2 es1 (dN es1.size);have fr:=relayAll_fits t2 es1 (dN es1.size);have lr:=Ar t2 es1 (dN es1.size);have nr:=uU t2 es1 (dN es1.size) p2;generalize relayAll t2 es1 (dN es1.size) = L at pr fr lr nr ⊢;obtain ⟨es2,t3,gv⟩:=L;dsimp only at pr fr lr nr ⊢;obtain ⟨us2,q2,e2⟩:=rH e1 pr;have z2:es2.size < scanBound:=by rw [<- bp,kD e2,(q2.trans q1).length_eq];exact z
   refine ab (hg _ _ _ (ab (Li k1 rfl (aw (h _ (sb1.trans (bO _ a _)) ?_)) (Lp z2))));exact ⟨es2,_,t3,us2,xV k1,fr,lr.trans l2,.inr nr,q2.trans q1,e2⟩
 . exact aw (h _ sb1 ⟨es1,_,t2,us1,k1,f2,l2,.inr p2,q1,e1⟩)
theorem uP (hS:nM prog w a ts s.heap) (hr:ts.length+1 < scanBound)
 (fin:∀ b h',fI a s.heap h'->nM prog w a (if x∈ts then ts else ts++[x]) h'->Q b { s with heap:=h',toks:=s.toks+1 }) :
 wpAny (model prog w) A (setAdd a (.str x tk)) Q E s:=by
 obtain ⟨es,ep,t,us,g,hf,hl,hp,hu,he⟩:=hS;have hsz:es.size = ts.length:=by rw [<- bp,kD he,hu.length_eq]
 have hk:(strKind prog w).is x (.str x tk) = true:=isStr_of.trans (decide_eq_true rfl);unfold setAdd;refine cE (ab ((strKind prog w).pyHash hk ?_))
 (unfold setAddHashed setAddHashedIn)
 refine cE (ab (fF (s:={ s with toks:=s.toks+1 }) g rfl hf ?_));dsimp only;rw [byScan_of rfl (by lia) he.1];simp only [↓reduceIte];unfold setAddByScan;refine ab (ab (iI (ab (wpAny_setScan_of (s:={ s with toks:=s.toks+1 }) hk g rfl hf he.1 ?_))));have hfn:=find_none (prog:=prog) (w:=w) (x:=x) he.2
 cases hi:List.findIdx? (fun e=>(strKind prog w).is x e.2) es.toList with
 | some j =>
   have hm:x∈ts:=by
    apply pA;intro z;rw [hfn.mpr fun z'=>z (hu.mem_iff.mp z')] at hi;cases hi
   rw [if_pos hm] at fin
   exact aw (aw (fin false s.heap (um a s.heap) ⟨es,ep,t,us,g,hf,hl,hp,hu,he⟩))
 | none =>
   have hm:x∉ts:=fun z=>(hfn.mp hi) (hu.mem_iff.mpr z);rw [if_neg hm] at fin;dsimp only;have p1:=layNew_perm t es ((strKind prog w).hash x) (.str x tk);have f1:=layNew_fits t es ((strKind prog w).hash x) (.str x tk);have l1:=GU t es ((strKind prog w).hash x) (.str x tk);generalize layNew t es ((strKind prog w).hash x) (.str x tk) = L at p1 f1 l1 ⊢;obtain ⟨es1,t1,dm,gv⟩:=L;dsimp only at p1 f1 l1 ⊢;rw [Bc] at p1;obtain ⟨us1,q1,e1⟩:=rH (Ay he x tk) p1;have q1':us1.Perm (ts++[x]):=q1.trans (hu.append (.refl _));have z1:es1.size = ts.length+1:=by rw [<- bp,kD e1,q1'.length_eq];simp
   have gw:∀ (b:Bool) {s1:ai} {Q':Unit->ai->Prop},Q' () s1->wpAny (model prog w) A (match b with | true=>rule "set.scan.the-table-gave-way" | false=>pure ()) Q' E s1:=fun b s1 Q' q=>by
    cases b
    . exact aw q
    . exact iI q
   refine ab (gw _ ?_);have gw':∀ (b:Bool) (s1:ai) (Q':Unit->ai->Prop),Q' () s1->wpAny (model prog w) A (match b with | true=>rule "set.scan.the-table-gave-way" | false=>pure ()) Q' E s1:=fun b s1 Q' q=>gw b q;have zz:(ts++[x]).length < scanBound:=by rw [aj,aV];exact hr
   split
   . refine ab (nS (hashByValue_scannable 8 rfl) ?_);refine set_tail (s:={ s with toks:=s.toks+1 }) (t2:={ t1 with plain:=false }) gw' g e1 q1' zz (SetTable.fits_plain_off f1) (l1.trans hl) rfl ?_;exact fun h' hs hx=>aw (fin true h' hs hx)
   . rename_i np;refine ab (aw ?_);refine set_tail (s:={ s with toks:=s.toks+1 }) (t2:=t1) gw' g e1 q1' zz f1 (l1.trans hl) (by simpa using np) ?_;exact fun h' hs hx=>aw (fin true h' hs hx)
theorem EJ (hS:nM prog w a ts s.heap) (hr:ts.length+1 < scanBound)
 (h:∀ h',fI a s.heap h'->nM prog w a (if x∈ts then ts else ts++[x]) h'->Q .none { s with heap:=h',toks:=s.toks+1 }) :
 wpAny (model prog w) A (call (.builtin "set.add") [.ref a,.str x tk]) Q E s:=by
 have g:∃ o,s.heap.get? a = some o/\o.cls = .type "set":=by
  obtain ⟨es,ep,t,us,g,_⟩:=hS;exact ⟨_,g,rfl⟩
 refine bM PySem.F.slot_set_add g PySem.F.entry_set_add ?_ (PySem.F.args_set_add_2 _ _);unfold fX.«set.add» Builtin.Frozenset.oneOther;simp only [kb,bind_assoc];unfold lW;refine ab (aw (ab (aw (ab (uP hS hr fun b h' hs hx=>?_)))));exact aw ⟨_,rfl,h h' hs hx⟩
end
theorem AB {E:af->ai->Prop} (hn:n≠0) (h:∀ i,i < n->Q i { s with drawn:=s.drawn.bump src }):wpAny M A (choose src n) Q E s :=
 fun Γ p hΓ=>⟨hn,h _ (Nat.mod_lt _ (Nat.pos_of_ne_zero hn))⟩
theorem lP {α:Type}:∀ {xs:List α} {i:Nat} {x:α},xs[i]? = some x->xs.Perm (x::xs.eraseIdx i)
 | [],i,x,h=>by simp at h
 | y::ys,0,x,h=>by simp at h;subst h;exact .refl _
 | y::ys,i+1,x,h=>by
   have:=lP (xs:=ys) (i:=i) (by simpa using h);exact (this.cons y).trans (.swap _ _ _)
theorem uY {E:af->ai->Prop} {α:Type}:∀ (n:Nat) (xs:List α) (s:ai) (Q:List α->ai->Prop),xs.length = n->(∀ ys d,ys.Perm xs->Q ys { s with drawn:=d })->wpAny M A (drawOrder n xs) Q E s
 | 0,xs,s,Q,hl,h=>by
   have:xs = []:=dh.mp hl;subst this
   exact aw (h [] s.drawn (.refl _))
 | n+1,[],s,Q,hl,h=>by simp at hl
 | n+1,x::xs,s,Q,hl,h=>by
   unfold drawOrder;refine ab (AB (by simp) fun i hi=>?_);have e:(x::xs)[i]? = some (x::xs)[i]:=az hi;have pe:=lP e;rw [e];dsimp only;refine ab (uY n _ _ _ ?_ fun ys d p=>aw ?_)
   . rw [rS hi];simp at hl ⊢;exact hl
   . exact h _ d ((p.cons _).trans pe.symm)
theorem yj {α:Type} (f:Nat->Nat):∀ (n k:Nat) (left:List α) (out:Array α),left.length = n->(qN f n k left out).toList.Perm (out.toList++left)
 | 0,k,left,out,hl=>by
   have:left = []:=dh.mp hl;subst this
   simp [qN]
 | n+1,k,left,out,hl=>by
   have hi:f k % left.length < left.length:=Nat.mod_lt _ (by lia);have e:left[f k % left.length]? = some left[f k % left.length]:=az hi;have pe:=lP e;unfold qN;rw [e];dsimp only;refine (yj f n (k+1) _ _ (by rw [rS hi];lia)).trans ?_;rw [Bc,dG];exact (List.Perm.refl _).append pe.symm
theorem rg {α:Type} (f:Nat->Nat) (xs:Array α):(pickOrder f xs).toList.Perm xs.toList:=by
 have:=yj f xs.size 0 xs.toList #[] (by simp);simpa [pickOrder] using this
theorem kN:Slot "set_iterator" "__next__" "set_iterator.__next__" :=
 .of (owner:="set_iterator") (n:="__next__") (by rw [typeLookup_type,EX];kernel_rfl) (by decide +kernel) (by decide +kernel) (by decide +kernel) (by first | exact .inl (by decide +kernel) | exact .inr (by decide +kernel)) (by rw [xy];kernel_rfl)
theorem vq:entryFor table "set_iterator.__next__" = some fX.«set_iterator.__next__»:=entryFor_of_tree (by kernel_rfl)
theorem yU (a:af):argsOk "set_iterator.__next__" ⟨[a],[]⟩:=by unfold argsOk;kernel_rfl
theorem Ek:entryFor table "set.__iter__" = some fX.«frozenset.__iter__»:=entryFor_alias (id':="frozenset.__iter__") (by kernel_rfl) rfl (by decide +kernel) (by kernel_rfl)
theorem Az:entryFor table "set_iterator.__iter__" = some fX.«dict_keyiterator.__iter__»:=entryFor_alias (id':="dict_keyiterator.__iter__") (by kernel_rfl) rfl (by decide +kernel) (by kernel_rfl)
theorem EH (a:af):argsOk "set_iterator.__iter__" ⟨[a],[]⟩:=by unfold argsOk;kernel_rfl
theorem uO:Slot "set_iterator" "__iter__" "set_iterator.__iter__" :=
 .of (owner:="set_iterator") (n:="__iter__") (by rw [typeLookup_type,EX];kernel_rfl) (by decide +kernel) (by decide +kernel) (by decide +kernel) (by first | exact .inl (by decide +kernel) | exact .inr (by decide +kernel)) (by rw [xy];kernel_rfl)
section
variable {prog:aM} {w:bj} {A:ba} {E:af->ai->Prop} {s:ai}
noncomputable def itO (first:af) (i:Nat) (a:av) (n ep:Nat):Obj:={ cls:=.type "set_iterator",data:=.fields #[first,.int i 0,.ref a,.int n 0,.int ep 0] }
theorem DP (g:s.heap.get? a = some { cls:=.type "set",dict:=none,data:=.set es ep t,slots := #[] }) (hf:t.fits es.size = true)
 (hd:(w.params.followText "set-order" = true\/es.size<=1)->Q (.ref s.heap.objs.size) { s with heap:=s.heap.push (itO (.int 0 0) 0 a es.size ep) })
 (hn:w.params.followText "set-order" = false->∀ (ps:List Nat) d,ps.Perm (bC es.size) ->
   Q (.ref (s.heap.objs.size+1)) { s with drawn:=d,heap:=(s.heap.push { cls:=.type "tuple",data:=.seq (ps.map fun (i:Nat)=>rawInt i).toArray }).push (itO (.ref s.heap.objs.size) 0 a es.size ep) })
 (hz:es.size < 1000) (hp:es.size = 0\/t.plain = false):wpAny (model prog w) A (pyIter (.ref a)) Q E s:=by
 refine Lk (T:="set") ⟨_,g,rfl⟩ PySem.F.slot_set_iter (bM PySem.F.slot_set_iter ⟨_,g,rfl⟩ Ek ?_ (PySem.F.args_set_iter_1 _));unfold fX.«frozenset.__iter__» Builtin.Frozenset.slot0 lW Builtin.Frozenset.sizeOf;simp only [slotArgs,kb,jD,aZ,if_false,ax,bne_self_eq_false,pure_bind,bind_assoc];refine ab (oH g rfl hf ?_);unfold setDrawn setsByText;simp only [bind_assoc,pure_bind];refine ab (fF g rfl hf (ab (eM ?_)));have sn:typeLookup (.type "set_iterator") (eN "__next__") = pure (some (.builtin "set_iterator.__next__")):=kN.lookup
 cases hb:w.params.followText "set-order" with
 | true =>
   rw [show ((model prog w).w.params.followText "set-order") = true from hb];simp only [jD,rX,aZ,if_false]
   refine ab (qL g rfl hf (ab (aR (aw ⟨_,rfl,"set_iterator",_,⟨_,aF _ rfl,rfl⟩,sn,hd (.inl hb)⟩))))
 | false =>
   rw [show ((model prog w).w.params.followText "set-order") = false from hb];split
   . refine ab (uY _ _ _ _ (by simp) fun ps d p=>?_);have hl:ps.length = es.size:=by rw [p.length_eq];simp
     unfold newTuple;refine ab (aR ?_ (by show (ps.map fun (i:Nat)=>rawInt i).toArray.size<=sizeLine;rw [cj];simp;lia));refine ab (qL (s:={ s with drawn:=d,heap:=s.heap.push { cls:=.type "tuple",data:=.seq (ps.map fun (i:Nat)=>rawInt i).toArray } }) (ah _ g) rfl hf ?_);refine ab (aR (aw ⟨_,rfl,"set_iterator",_,⟨_,aF _ rfl,rfl⟩,sn,?_⟩));have:=hn hb ps d p;rw [show (s.heap.push { cls:=.type "tuple",data:=.seq (ps.map fun (i:Nat)=>rawInt i).toArray }).objs.size = s.heap.objs.size+1 from bH ..];exact this
   . rename_i nd
     have h1:es.size<=1:=by
      rcases hp with z | z
      . lia
      . apply pA;intro h2;apply nd;show (!false && (!t.plain && decide (es.size > 1))) = true;rw [z];simp
        lia
     refine ab (qL g rfl hf (ab (aR (aw ⟨_,rfl,"set_iterator",_,⟨_,aF _ rfl,rfl⟩,sn,hd (.inr h1)⟩))))
end
section
variable {prog:aM} {w:bj} {A:ba} {E:af->ai->Prop} {s:ai}
noncomputable def wC (es:Array (Int × af)) (ep:Nat) (t:iQ):Obj:={ cls:=.type "set",dict:=none,data:=.set es ep t,slots := #[] }
noncomputable def plO (ps:List Nat):Obj:={ cls:=.type "tuple",data:=.seq (ps.map fun (i:Nat)=>rawInt i).toArray }
theorem tB (g:s.heap.get? I = some (itO f i a n ep)) (h:Q (.ref I) s):wpAny (model prog w) A (pyIter (.ref I)) Q E s:=by
 refine Lk (T:="set_iterator") ⟨_,g,rfl⟩ uO (bM uO ⟨_,g,rfl⟩ Az ?_ (EH _));exact aw ⟨_,rfl,"set_iterator",_,⟨_,g,rfl⟩,kN.lookup,h⟩
theorem xO {Q:Option af->ai->Prop} {Q':PySem.Fin->ai->Prop} (hh:A.handled = none) (h:∀ h',(∀ b o,s.heap.get? b = some o->h'.get? b = some o)->Q none { s with heap:=h' }) :
 wpAny (model prog w) A.in1 (do raiseNew (<- newExc (.type "StopIteration") [])) Q' (fun e s'=>wpAny (model prog w) A (do
  let b <- isInstance e (.type "StopIteration")
  if b = true then pure none else throw e) Q E s') s:=by
 refine ab ?_;simp only [newExc,newTuple];refine ab (aR (ab (m:=firstArgMember _ _) (nS (a:=cm) (by first | rfl | (simp only [firstArgMember];rfl)) (aR ?_ (by size_fits)))) (by size_fits));simp only [raiseNew];apply ab;apply wpAny_handled;rw [(hh:A.in1.handled = none)];dsimp only;apply wpAny_throw;refine ab (uh (b:=true) (T:="StopIteration") ⟨_,aF _ rfl,rfl⟩ isSubtype_stop (aw (h _ fun b o e=>?_)));exact ah _ (ah _ e)
theorem qg {I:av} {f x:af} {i:Nat} {a:av} {n ep:Nat} {h:bJ} (g:h.get? I = some (itO f i a n ep)):(h.update I (jY (·.setIfInBounds 0 x))).get? I = some (itO x i a n ep):=eX _ g rfl
theorem vh {I:av} {f:af} {i:Nat} {a:av} {n ep:Nat} {h:bJ} (g:h.get? I = some (itO f i a n ep)):(h.update I (jY (·.setIfInBounds 1 (rawInt ((i:Int)+1))))).get? I = some (itO f (i+1) a n ep):=by
 have:=eX (jY (·.setIfInBounds 1 (rawInt ((i:Int)+1)))) g rfl;rw [this];simp [jY,itO,rawInt]
section
variable {I a:av} {es:Array (Int × af)} {ep:Nat} {t:iQ} {i:Nat} {Q:Option af->ai->Prop}
theorem sU {slot:Nat} (g:s.heap.get? I = some (itO (.int slot 0) i a es.size ep)) (ga:s.heap.get? a = some (wC es ep t)) (hf:t.fits es.size = true) (hh:A.handled = none) {r:Option (af × Nat)}
 (hs:∀ (A':ba) (Q':Option (af × Nat)->ai->Prop) (E':af->ai->Prop),Q' r s->wpAny (model prog w) A' (setNext a slot i ep) Q' E' s)
 (h:match r with
   | some (x,next)=>∀ h',h'.get? I = some (itO (.int next 0) (i+1) a es.size ep)->(∀ b o,b≠I->s.heap.get? b = some o->h'.get? b = some o)->Q (some x) { s with heap:=h' }
   | none=>∀ h',(∀ b o,b≠I->s.heap.get? b = some o->h'.get? b = some o)->Q none { s with heap:=h' }) :
 wpAny (model prog w) A (pyNext (.ref I)) Q E s:=by
 unfold pyNext;refine ab (pb (cb (name:=eN "__next__") ⟨_,g,rfl⟩ kN (bM kN ⟨_,g,rfl⟩ vq ?_ (yU _))));unfold fX.«set_iterator.__next__»;simp only [slotArgs,kb,jD,aZ,if_false,ax,bne_self_eq_false,pure_bind,bind_assoc];refine ab (wpAny_fieldsOf g rfl ?_);dsimp only;refine ab (oH ga rfl hf ?_);rw [if_neg (by simp)];refine ab (hs _ _ _ ?_)
 cases r with
 | some p =>
   obtain ⟨x,next⟩:=p;refine ab (eK g rfl (by show 0 < 5;decide) (ab (eK (qg g) rfl (by show 1 < 5;decide) (aw ⟨x,rfl,aw (h _ (vh (qg g)) fun b o hb e=>?_)⟩))))
   exact (bO _ I _).extBut b o hb ((bO _ I _).extBut b o hb e)
 | none =>
   refine ab (eK g rfl (by show 2 < 5;decide) ?_);refine xO hh fun h' k=>?_;exact h h' fun b o hb e=>k b o ((bO _ I _).extBut b o hb e)
theorem DB {T:av} {ps:List Nat} (g:s.heap.get? I = some (itO (.ref T) i a es.size ep)) (ga:s.heap.get? a = some (wC es ep t)) (gT:s.heap.get? T = some (plO ps)) (hf:t.fits es.size = true) (hh:A.handled = none)
 (h:match ps[i]? with
   | some p=>∃ x,es[p]? = some x/\∀ h',h'.get? I = some (itO (.ref T) (i+1) a es.size ep)->(∀ b o,b≠I->s.heap.get? b = some o->h'.get? b = some o)->Q (some x.2) { s with heap:=h' }
   | none=>∀ h',(∀ b o,b≠I->s.heap.get? b = some o->h'.get? b = some o)->Q none { s with heap:=h' }) :
 wpAny (model prog w) A (pyNext (.ref I)) Q E s:=by
 unfold pyNext;refine ab (pb (cb (name:=eN "__next__") ⟨_,g,rfl⟩ kN (bM kN ⟨_,g,rfl⟩ vq ?_ (yU _))));unfold fX.«set_iterator.__next__»;simp only [slotArgs,kb,jD,aZ,if_false,ax,bne_self_eq_false,pure_bind,bind_assoc];refine ab (wpAny_fieldsOf g rfl ?_);dsimp only;refine ab (oH ga rfl hf ?_);rw [if_neg (by simp)];refine ab (dE gT rfl ?_);dsimp only;have e:((ps.map fun (i:Nat)=>rawInt i).toArray)[((i:Nat):Int).toNat]? = (ps[i]?).map fun (p:Nat)=>rawInt p:=by simp
 rw [e]
 cases hp:ps[i]? with
 | some p =>
   rw [hp] at h;obtain ⟨x,hx,h⟩:=h;simp only [da,rawInt];unfold setNextDrawn;simp only [bind_assoc,pure_bind];refine ab (fF ga rfl hf ?_);rw [if_neg (by simp)];simp only [jB,hx,pure_bind];refine ab (eK g rfl (by show 1 < 5;decide) (aw ⟨x.2,rfl,aw (h _ (vh g) fun b o hb e=>?_)⟩))
   exact (bO _ I _).extBut b o hb e
 | none =>
   rw [hp] at h;simp only [Option.map_none];refine ab (eK g rfl (by show 0 < 5;decide) (ab (eK (qg g) rfl (by show 2 < 5;decide) ?_)));refine xO hh fun h' k=>?_;exact h h' fun b o hb e=>k b o ((bO _ I _).extBut b o hb ((bO _ I _).extBut b o hb e))
end
end
section
variable {prog:aM} {w:bj} {A:ba} {E:af->ai->Prop} {s:ai} {I a T:av} {es:Array (Int × af)} {ep:Nat} {t:iQ}
theorem Bh (hh:A.handled = none) (h1:a≠I) (h2:T≠I) (hf:t.fits es.size = true) (hp:∀ p∈ps,p < es.size) :
 Walks prog w A I [I,a,T] [I] ps.length (fun i v=>∃ p x,ps[i]? = some p/\es[p]? = some x/\v = x.2) (fun i h=>h.get? I = some (itO (.ref T) i a es.size ep)/\h.get? a = some (wC es ep t)/\h.get? T = some (plO ps)) where
 sub:=fun b hb=>by simp at hb;simp [hb]
 frame:=fun _ _ _ st hk=>⟨hk I (by simp) _ st.1,hk a (by simp) _ st.2.1,hk T (by simp) _ st.2.2⟩
 item:=fun i s Q E hi st hQ=>by
  refine DB (ps:=ps) st.1 st.2.1 st.2.2 hf hh ?_;have e:ps[i]? = some ps[i]:=az hi;obtain ⟨x,hx⟩:∃ x,es[ps[i]]? = some x:=⟨_,dB (hp _ (ke hi))⟩;rw [e];exact ⟨x,hx,fun h' g' k=>hQ _ h' s.toks ⟨_,_,e,hx,rfl⟩ ⟨g',k a _ h1 st.2.1,k T _ h2 st.2.2⟩ fun b o hb z=>k b o (fun q=>hb (by simp [q])) z⟩
 done:=fun s Q E st hQ=>by
  refine DB (ps:=ps) st.1 st.2.1 st.2.2 hf hh ?_;have e:ps[ps.length]? = none:=by simp
  rw [e];exact fun h' k=>hQ h' s.toks fun b o hb z=>k b o (fun q=>hb (by simp [q])) z
 self:=fun _ _ _ _ st hQ=>tB st.1 hQ
noncomputable def txt (w:bj) (a:av) (ep:Nat) (es:Array (Int × af)):Array (Int × af):=pickOrder (w.params.setOrder a ep) es
theorem Bg (hh:A.handled = none) (h1:a≠I) (hf:t.fits es.size = true) (hb:w.params.followText "set-order" = true) :
 Walks prog w A I [I,a] [I] es.size (fun i v=>∃ x,(txt w a ep es)[i]? = some x/\v = x.2) (fun i h=>(∃ slot:Nat,h.get? I = some (itO (.int slot 0) i a es.size ep))/\h.get? a = some (wC es ep t)):=by
 have hsz:(txt w a ep es).size = es.size:=by
  have:=(rg (w.params.setOrder a ep) es).length_eq;simpa [txt] using this
 have sn:∀ (A':ba) (s:ai) (slot i:Nat) (Q':Option (af × Nat)->ai->Prop) (E':af->ai->Prop),s.heap.get? a = some (wC es ep t)->Q' (((txt w a ep es)[i]?).map fun e=>(e.2,slot)) s->wpAny (model prog w) A' (setNext a slot i ep) Q' E' s:=fun A' s slot i Q' E' ga q=>by
  unfold setNext setsByText;simp only [bind_assoc,pure_bind];refine ab (fF ga rfl hf (ab (eM ?_)));rw [show ((model prog w).w.params.followText "set-order") = true from hb];simp only [if_true,bne_self_eq_false,aZ,if_false];unfold setWalk setsByText;simp only [bind_assoc,pure_bind];refine ab (fF ga rfl hf (ab (eM ?_)));rw [show ((model prog w).w.params.followText "set-order") = true from hb];simp only [if_true,bind_assoc,pure_bind];exact ab (eM (aw q))
 exact {
  sub:=fun b hb=>by simp at hb;simp [hb]
  frame:=fun _ _ _ st hk=>⟨st.1.imp fun slot e=>hk I (by simp) _ e,hk a (by simp) _ st.2⟩
  item:=fun i s Q E hi st hQ=>by
   obtain ⟨slot,g⟩:=st.1;have e:(txt w a ep es)[i]? = some ((txt w a ep es)[i]'(by omega)):=dB _;refine sU (slot:=slot) (r:=some (((txt w a ep es)[i]'(by omega)).2,slot)) g st.2 hf hh (fun A' Q' E' q=>sn A' s slot i Q' E' st.2 (by rw [e];exact q)) fun h' g' k=>?_;exact hQ _ h' s.toks ⟨_,e,rfl⟩ ⟨⟨slot,g'⟩,k a _ h1 st.2⟩ fun b o hb z=>k b o (fun q=>hb (by simp [q])) z
  done:=fun s Q E st hQ=>by
   obtain ⟨slot,g⟩:=st.1;have e:(txt w a ep es)[es.size]? = none:=by rw [<- hsz];simp
   refine sU (slot:=slot) (r:=none) g st.2 hf hh (fun A' Q' E' q=>sn A' s slot es.size Q' E' st.2 (by rw [e];exact q)) fun h' k=>?_;exact hQ h' s.toks fun b o hb z=>k b o (fun q=>hb (by simp [q])) z
  self:=fun _ _ _ _ st hQ=>tB st.1.choose_spec hQ }
theorem vI (p:Array Nat) (hp:p.size<=1) (slot:Nat):cS p slot = if p.any (· < slot) = true then 1 else 0:=by
 match p,hp with
 | ⟨[]⟩,_=>simp [cS,ko]
 | ⟨[j]⟩,_ =>
   by_cases h:j < slot
   . simp [cS,ko,h]
   . simp [cS,ko,h]
 | ⟨_::_::_⟩,h=>simp at h
theorem Bi (hh:A.handled = none) (h1:a≠I) (hf:t.fits es.size = true) (hb:w.params.followText "set-order" = false) (hl:t.led = true) (hz:es.size<=1) :
 Walks prog w A I [I,a] [I] es.size (fun i v=>∃ x,es[i]? = some x/\v = x.2) (fun i h=>(∃ slot:Nat,h.get? I = some (itO (.int slot 0) i a es.size ep)/\(i = 0->slot = 0)/\(1<=i->t.place.any (· < slot) = true))/\h.get? a = some (wC es ep t)):=by
 have hp:t.place.size = es.size:=by
  have:=hf;simp only [SetTable.fits,aa,beq_iff_eq] at this;exact this.1
 have sn:∀ (A':ba) (s:ai) (slot i:Nat) (Q':Option (af × Nat)->ai->Prop) (E':af->ai->Prop),s.heap.get? a = some (wC es ep t) ->
  Q' (match es[cS t.place slot]?,t.place[cS t.place slot]? with | some (_,x),some j=>some (x,j+1) | _,_=>none) s->wpAny (model prog w) A' (setNext a slot i ep) Q' E' s:=fun A' s slot i Q' E' ga q=>by
  unfold setNext setsByText;simp only [bind_assoc,pure_bind];refine ab (fF ga rfl hf (ab (eM ?_)));rw [show ((model prog w).w.params.followText "set-order") = false from hb];simp only [aZ,if_false];refine nS (a:=(match es[cS t.place slot]?,t.place[cS t.place slot]? with | some (_,x),some j=>some (x,j+1) | _,_=>none)) ?_ q;rw [if_neg (by show ¬ ((!t.plain && decide (es.size > 1)) = true);simp;omega)];show ((if (!t.led && !es.isEmpty) = true then unsupported _ else pure ()) >>= fun _=>pure _:Sem _) = _;rw [hl];rfl
 exact {
  sub:=fun b hb=>by simp at hb;simp [hb]
  frame:=fun _ _ _ st hk=>⟨st.1.imp fun slot e=>⟨hk I (by simp) _ e.1,e.2⟩,hk a (by simp) _ st.2⟩
  item:=fun i s Q E hi st hQ=>by
   obtain ⟨slot,g,z0,z1⟩:=st.1;have i0:i = 0:=by omega
   subst i0;have s0:=z0 rfl;subst s0;have b0:cS t.place 0 = 0:=by rw [vI _ (by omega)];simp
   have e:es[0]? = some (es[0]'hi):=dB _;have ej:t.place[0]? = some (t.place[0]'(by omega)):=dB _;refine sU (slot:=0) (r:=some ((es[0]'hi).2,t.place[0]'(by omega)+1)) g st.2 hf hh (fun A' Q' E' q=>sn A' s 0 0 Q' E' st.2 (by rw [b0,e,ej];exact q)) fun h' g' k=>?_;refine hQ _ h' s.toks ⟨_,e,rfl⟩ ⟨⟨_,g',fun z=>by omega,fun _=>?_⟩,k a _ h1 st.2⟩ fun b o hb z=>k b o (fun q=>hb (by simp [q])) z;rw [Array.any_eq_true];exact ⟨0,by omega,by simp⟩
  done:=fun s Q E st hQ=>by
   obtain ⟨slot,g,z0,z1⟩:=st.1
   have e:es[cS t.place slot]? = none:=by
    rw [vI _ (by omega)];rcases Nat.lt_or_ge 0 es.size with q | q
    . rw [if_pos (z1 (by omega))];exact vS (by omega)
    . exact vS (by split<;>omega)
   refine sU (slot:=slot) (r:=none) g st.2 hf hh (fun A' Q' E' q=>sn A' s slot es.size Q' E' st.2 (by rw [e];exact q)) fun h' k=>?_;exact hQ h' s.toks fun b o hb z=>k b o (fun q=>hb (by simp [q])) z
  self:=fun _ _ _ _ st hQ=>tB st.1.choose_spec.1 hQ }
noncomputable def Lc (w:bj) (a:av) (xs:List af) (h:bJ):Prop:=∃ (es:Array (Int × af)) (ep:Nat) (t:iQ),
 h.get? a = some { cls:=.type "set",dict:=none,data:=.set es ep t,slots := #[] }/\t.fits es.size = true/\t.led = (!w.params.followText "set-order")/\(es.size = 0\/t.plain = false)/\(es.toList.map (·.2)).Perm xs
theorem CB (hh:A.handled = none) (hS:Lc w a xs s.heap) (hz:xs.length < 1000)
 (h:∀ (I:av) (fp:List av) (n:Nat) (P:Nat->af->Prop) (St:Nat->bJ->Prop) (us:List af) d h',Walks prog w A I fp [I] n P St->us.length = n->St 0 h'->(∀ b∈fp,b < h'.objs.size)->(∀ b o,s.heap.get? b = some o->b≠I/\h'.get? b = some o)->us.Perm xs->(∀ i v,P i v->us[i]? = some v)->(∀ b∈fp,b = a\/s.heap.objs.size<=b) ->
   Q (.ref I) { s with drawn:=d,heap:=h' }):wpAny (model prog w) A (pyIter (.ref a)) Q E s:=by
 obtain ⟨es,ep,t,g,hf,hl,hp,hu⟩:=hS;have hsz:es.size = xs.length:=by rw [<- hu.length_eq];simp
 have ha:a < s.heap.objs.size:=aA g
 have pe:∀ (vs:List (Int × af)),vs.Perm es.toList->∃ us':List af,us'.Perm xs/\us'.length = es.size/\∀ (i:Nat) (x:Int × af),vs[i]? = some x->us'[i]? = some x.2:=fun vs pv =>
  ⟨vs.map (·.2),(pv.map _).trans hu,by rw [ao,pv.length_eq,bp],fun i x hx=>by rw [bG,hx];rfl⟩
 refine DP g hf (fun hm=>?_) (fun hb ps d pp=>?_) (by omega) hp
 . cases hb:w.params.followText "set-order" with
   | true =>
     obtain ⟨us',p',l',q'⟩:=pe (txt w a ep es).toList (rg _ _);refine h s.heap.objs.size [s.heap.objs.size,a] es.size _ _ us' s.drawn _ (Bg (ep:=ep) (I:=s.heap.objs.size) hh (aJ ha) hf hb) l' ⟨⟨0,aF _ rfl⟩,ah _ g⟩ (fun b hb=>?_) (fun b o e=>⟨aJ (aA e),ah _ e⟩) p' (fun i v ⟨x,hx,hv⟩=>?_) (fun b hb=>by simp at hb;rcases hb with rfl | rfl;exact .inr (aB _);exact .inl rfl)
     . rw [bH];simp at hb;rcases hb with rfl | rfl
       . exact gY _
       . exact bK ha
     . rw [hv]
       exact q' i x (by simpa using hx)
   | false =>
     have h1:es.size<=1:=by
      rcases hm with z | z
      . rw [hb] at z;cases z
      . exact z
     obtain ⟨us',p',l',q'⟩:=pe es.toList (.refl _);refine h s.heap.objs.size [s.heap.objs.size,a] es.size _ _ us' s.drawn _ (Bi (ep:=ep) (I:=s.heap.objs.size) hh (aJ ha) hf hb (by rw [hl,hb];rfl) h1) l' ⟨⟨0,aF _ rfl,fun _=>rfl,fun z=>by omega⟩,ah _ g⟩ (fun b hb=>?_) (fun b o e=>⟨aJ (aA e),ah _ e⟩) p' (fun i v ⟨x,hx,hv⟩=>?_) (fun b hb=>by simp at hb;rcases hb with rfl | rfl;exact .inr (aB _);exact .inl rfl)
     . rw [bH];simp at hb;rcases hb with rfl | rfl
       . exact gY _
       . exact bK ha
     . rw [hv];exact q' i x (by simpa using hx)
 . have hps:∀ p∈ps,p < es.size:=fun p hp=>by simpa using pp.mem_iff.mp hp
   have hpl:ps.length = es.size:=by rw [pp.length_eq];simp
   have pv:(ps.filterMap fun p=>es[p]?).Perm es.toList:=by
    have:=pp.filterMap fun p=>es[p]?
    rwa [filterMap_getElem?_range] at this
   have ev:∀ (ps:List Nat),(∀ p∈ps,p < es.size)->∀ (i p:Nat),ps[i]? = some p->(ps.filterMap fun p=>es[p]?)[i]? = es[p]? := fun ps=>by
    induction ps with
    | nil=>intro _ i p e;simp at e
    | cons q qs ih =>
      intro hq i p e;have hq0:es[q]? = some (es[q]'(hq q ay)):=dB _;rw [List.filterMap_cons_some hq0]
      cases i with
      | zero=>simp at e;subst e;simp [hq0]
      | succ i=>simpa using ih (fun p hp=>hq p (au _ hp)) i p (by simpa using e)
   obtain ⟨us',p',l',q'⟩:=pe _ pv;have W:=Bh (prog:=prog) (w:=w) (A:=A) (ep:=ep) (a:=a) (I:=s.heap.objs.size+1) (T:=s.heap.objs.size) hh (aJ (bK ha)) (aJ (gY _)) hf hps;have sz:((s.heap.push (plO ps)).push (itO (.ref s.heap.objs.size) 0 a es.size ep)).objs.size = s.heap.objs.size+1+1:=by rw [bH,bH]
   refine h (s.heap.objs.size+1) [s.heap.objs.size+1,a,s.heap.objs.size] ps.length _ _ us' d _ W (l'.trans hpl.symm) ⟨?_,ah _ (ah _ g),ah _ (aF _ rfl)⟩ (fun b hb=>?_) (fun b o e=>⟨aJ (bK (aA e)),ah _ (ah _ e)⟩) p' (fun i v ⟨p,x,e1,e2,hv⟩=>?_) (fun b hb=>by simp at hb;rcases hb with rfl | rfl | rfl;exact .inr (ik _);exact .inl rfl;exact .inr (aB _))
   . have:((s.heap.push (plO ps)).push (itO (.ref s.heap.objs.size) 0 a es.size ep)).get? (s.heap.push (plO ps)).objs.size = _:=aF _ rfl
     rwa [bH] at this
   . show b < ((s.heap.push (plO ps)).push (itO (.ref s.heap.objs.size) 0 a es.size ep)).objs.size;rw [sz];simp at hb;rcases hb with rfl | rfl | rfl
     . exact gY _
     . exact bK (bK ha)
     . exact bK (gY _)
   . rw [hv];exact q' i x (by rw [ev ps hps i p e1];exact e2)
end
section
variable {prog:aM} {w:bj} {A:ba} {E:af->ai->Prop} {s:ai} {a:av}
theorem DN:typeLookup (.type "set") "__len__" = pure (some (.builtin "set.__len__")):=PySem.F.slot_set_len.lookup
theorem yw {α:Type}:∀ {us vs:List α},us.length = vs.length->(∀ (j:Nat) (v:α),vs[j]? = some v->us[j]? = some v)->us = vs
 | [],[],_,_=>rfl
 | [],_::_,h,_=>by simp at h
 | _::_,[],h,_=>by simp at h
 | u::us,v::vs,h,q=>by
   have e:=q 0 v rfl;simp at e;subst e;rw [yw (by simpa using h) fun j x hj=>q (j+1) x (by simpa using hj)]
theorem HW {id:String} {args:Args} {b:fX} {R:xB->ai->Prop} (hb:entryFor table id = some b) (hp:plainId id = true)
 (h:wpAny (model prog w) A.in1 (b args) (fun fin s'=>match fin with | .done f=>R (.ok f) s' | .again c'=>c'.quiet = true/\codeAny (model prog w) A c' R s') (fun e s'=>R (.error e) s') s):codeAny (model prog w) A (.builtin id args) R s :=
 codeAny_builtin hb (by rw [Around.under_plainId hp args];exact h)
theorem vC {xs:List af} {Q:List af->ai->Prop} (hh:A.handled = none) (hS:Lc w a xs s.heap) (hz:xs.length < 1000)
 (h:∀ (vs:List af) d tk h',vs.Perm xs->(∀ b o,s.heap.get? b = some o->h'.get? b = some o)->Q vs { s with drawn:=d,toks:=tk,heap:=h' }) :
 wpAny (model prog w) A (collect (.ref a)) Q E s:=by
 have ha:a < s.heap.objs.size:=by obtain ⟨es,ep,t,g,_⟩:=hS;exact aA g
 have hsa:s.heap.objs.size≠a:=fun z=>cu _ (by rw [z] at ha;exact ha);unfold collect;refine ab (wpAny_runValue (HW F.entry_proto_collect F.plain_proto_collect ?_));show wpAny _ A.in1 (newList [] >>= fun l=>again (.builtin "list.__iadd__" ⟨[l,.ref a],[]⟩)) _ _ s;refine ab (aR (aw ⟨plainId_quiet F.plain_list_iadd _,HW F.entry_list_iadd F.plain_list_iadd ?_⟩));generalize ho:({ cls:=.type "list",data:=.seq ([]:List af).toArray }:Obj) = lo;have g0:(s.heap.push lo).get? s.heap.objs.size = some lo:=aF _ (by rw [<- ho];rfl)
 have hS1:Lc w a xs (s.heap.push lo):=by
  obtain ⟨es,ep,t,g,r⟩:=hS;exact ⟨es,ep,t,ah _ g,r⟩
 have hT:({ s with heap:=s.heap.push lo }:ai).TypeIs (.ref a) "set":=by
  obtain ⟨es,ep,t,g,r⟩:=hS1;exact ⟨_,g,rfl⟩
 show wpAny _ A.in1 (mT (.ref s.heap.objs.size) (.ref a) (.ref s.heap.objs.size)) _ _ _;unfold mT;refine ab (qK hT ?_);have nr:oo (.ref s.heap.objs.size) (.ref a) = false:=by simp [oo,hsa]
 rw [if_neg (by rw [nr];decide)];refine ab (CB (A:=A.in1) hh hS1 hz fun I fp n P St us d h2 W hn st hf hk hu hP hfp=>?_);refine ab (cE ?_);unfold Builtin.List.listLengthHint
 have hT2:({ s with heap:=h2,drawn:=d }:ai).TypeIs (.ref a) "set":=by
  obtain ⟨es,ep,t,g,r⟩:=hS1;exact ⟨_,(hk _ _ g).2,rfl⟩
 refine ab (wpAny_specialOf hT2 DN ?_);dsimp only;rw [show splitId "set.__len__" = some ("set","__len__") from by decide +kernel];dsimp only;refine ab (uh (b:=true) hT2 (by rw [xy];kernel_rfl) ?_);rw [if_neg (by decide),if_pos (by kernel_rfl)];refine ab (qK hT2 (aw ?_));rw [if_pos (by decide +kernel)];have gS:h2.get? s.heap.objs.size = some lo:=(hk _ _ g0).2;subst ho
 have hSf:s.heap.objs.size∉fp:=fun hm=>by
  rcases hfp _ hm with z | z
  . exact hsa z
  . rw [show ({ s with heap:=s.heap.push _ }:ai).heap.objs.size = s.heap.objs.size+1 from bH ..] at z;exact cu _ z
 have g3:=vN gS fun xs=>xs.push cm;have g4:=vN g3 fun xs=>xs.pop;refine ab (iI (ab ?_));unfold Builtin.List.listTouch;refine ab (kJ gS rfl (kJ (s:={ s with drawn:=d,heap:=h2.update s.heap.objs.size (bY fun xs=>xs.push cm) }) g3 rfl ?_ (by rw [cj];simp) (by rw [cj];simp)) (by rw [cj];simp) (by rw [cj];simp));have up:∀ {h:bJ} {f:Obj->Obj} {b:av} {o:Obj},b≠s.heap.objs.size->h.get? b = some o->(h.update s.heap.objs.size f).get? b = some o:=fun hb e=>(eI _ _ (Ne.symm hb)).trans e;have st4:=W.frame 0 _ ((h2.update s.heap.objs.size (bY fun xs=>xs.push cm)).update s.heap.objs.size (bY fun xs=>xs.pop)) st fun b hb o e=>up (fun z=>hSf (z▸hb)) (up (fun z=>hSf (z▸hb)) e);refine aw ⟨plainId_quiet F.plain_extend_loop _,codeAny_extend_loopS W.toS (by rw [<- hn,hu.length_eq,cj];lia) _ hSf _ n 0 _ #[] _ rfl (cZ _) st4 g4 (ItemsOf.nil P) fun s' acc c hm hS' hac=>?_⟩;show wpAny _ A (load s.heap.objs.size >>= _) _ _ s';refine ab (wpAny_load hS' (aw ?_));obtain ⟨hp',gn',dr',tk',os'⟩:=s';obtain ⟨m1,m2,m3,m4,m5⟩:=hm;obtain rfl:gn' = s.gens:=m2;obtain rfl:dr' = d:=m3;obtain rfl:os' = s.os:=m4;have ea:us = acc.toList:=yw (hn.trans (hac.1.symm.trans bp.symm)) fun j v hj=>hP j v (hac.2 j v (by simpa using hj));refine h acc.toList _ tk' hp' (by rw [<- ea];exact hu) fun b o e=>?_;have hb:b≠s.heap.objs.size:=aJ (aA e);have hb2:=hk b o (ah _ e);exact m1 b o (by simp [hb,hb2.1]) (up hb (up hb hb2.2))
theorem Ag {α β:Type} {R:α->β->Prop} {ys' ys:List β} (p:Fe ys' ys):∀ xs,Paired R xs ys->∃ xs',xs'.Perm xs/\Paired R xs' ys':=by
 induction p with
 | nil=>intro us r;exact ⟨us,.refl _,r⟩
 | cons x _ ih =>
   intro us r
   cases r with
   | cons r t =>
     obtain ⟨us',p',r'⟩:=ih _ t
     exact ⟨_,p'.cons _,.cons r r'⟩
 | swap x y l =>
   intro us r
   cases r with
   | cons r1 t =>
     cases t with
     | cons r2 t=>exact ⟨_,.swap _ _ _,.cons r2 (.cons r1 t)⟩
 | trans _ _ i1 i2 =>
   intro us r;obtain ⟨u1,p1,r1⟩:=i2 us r;obtain ⟨u2,p2,r2⟩:=i1 u1 r1;exact ⟨u2,p2.trans p1,r2⟩
theorem vB {ts:List Str} {Q:List af->ai->Prop} (hh:A.handled = none) (hS:nM prog w a ts s.heap) (hz:ts.length < 1000)
 (h:∀ (us:List Str) (vs:List af) d tk h',us.Perm ts->Paired (fun (u:Str) (v:af)=>∃ k,v = .str u k) us vs->(∀ b o,s.heap.get? b = some o->h'.get? b = some o)->Q vs { s with drawn:=d,toks:=tk,heap:=h' }) :
 wpAny (model prog w) A (collect (.ref a)) Q E s:=by
 obtain ⟨es,ep,t,us,g,hf,hl,hp,hu,he⟩:=hS
 have pr:∀ {us:List Str} {es:List (Int × af)},Paired (fun (u:Str) (e:Int × af)=>∃ tk,e.2 = .str u tk) us es->Paired (fun (u:Str) (v:af)=>∃ k,v = .str u k) us (es.map (·.2)):=fun r=>by
  induction r with
  | nil=>exact .nil
  | cons r _ ih=>exact .cons r ih
 refine vC hh ⟨es,ep,t,g,hf,hl,hp,.refl _⟩ (by rw [ao,kD he,hu.length_eq];exact hz) fun vs d tk h' pv k=>?_;obtain ⟨us',p',r'⟩:=Ag pv us (pr he.2);exact h us' vs d tk h' (p'.trans hu) r' k
end
end PP
end
section
namespace PP
open PySem L2 PyProof.Rows PySem.W
noncomputable def ltS (a b:Str):Bool:=decide (a.cps.toList < b.cps.toList)
theorem DI (a b:Str):oC (.str a) (.str b) = some (ltS a b):=by simp [oC,ltD,dep,ltS]
theorem Ki (a b:Str) (h:ltS a b = true):ltS b a = false:=by
 unfold ltS at h ⊢;rw [decide_eq_true_eq] at h;rw [decide_eq_false_iff_not];exact List.lt_asymm h
theorem Kg (a b c:Str) (h1:ltS b a = false) (h2:ltS c b = false):ltS c a = false:=by
 unfold ltS at h1 h2 ⊢;rw [decide_eq_false_iff_not] at h1 h2 ⊢;exact List.le_trans h1 h2
theorem Kh (a b:Str) (h1:ltS a b = false) (h2:ltS b a = false):a = b:=by
 unfold ltS at h1 h2;rw [decide_eq_false_iff_not] at h1 h2;have:=List.le_antisymm h2 h1;obtain ⟨⟨x⟩⟩:=a;obtain ⟨⟨y⟩⟩:=b;simp at this;rw [this]
theorem Fw {α:Type} [Inhabited α] {lt:α->α->Bool} {ys:List α} (h:∀ i j,i<=j->j < ys.length->lt (ys.getD j default) (ys.getD i default) = false):ys.Pairwise fun a b=>lt b a = false:=by
 rw [List.pairwise_iff_getElem];intro i j hi hj hij;have:=h i j (iR hij) hj;simpa [lV,az hi,az hj] using this
theorem fN (ts:List Str):∃ ys:List Str,eO (ts.map .str) = ys.map .str/\ys.Perm ts/\ys.Pairwise fun a b=>ltS b a = false:=by
 obtain ⟨ys,e,p,u⟩:=BZ D.str ltS DI Ki Kg ts;exact ⟨ys,e,p,Fw u⟩
theorem sA {us ts:List Str} (p:us.Perm ts):eO (us.map .str) = eO (ts.map .str):=by
 obtain ⟨a,e1,p1,q1⟩:=fN us;obtain ⟨b,e2,p2,q2⟩:=fN ts;have:a = b:=List.Perm.eq_of_pairwise (fun x y _ _ h1 h2=>Kh x y h2 h1) q1 q2 (p1.trans (p.trans p2.symm));rw [e1,e2,this]
noncomputable def Nt (X:Cx) (p:av) (ts:List Str):HO:=.ext (nM X.prog X.w p ts)
variable [Tbs]
theorem jG:∀ {us:List Str} {vs:List af},Paired (fun (u:Str) (v:af)=>∃ k,v = .str u k) us vs->Vals (us.map V.str) vs
 | _,_,.nil=>.nil
 | _,_,.cons r t=>.cons r (jG t)
theorem nA {K:Frag} {H:Hp} {F:av->Prop}:∀ (us:List Str),aG K H F (us.map .str) (us.map V.str)
 | []=>aG.nil
 | u::us=>aG.cons (hV u) (nA us)
theorem Dk {α β:Type} {R:α->β->Prop} {xs:List α} {vs:List β} (h:Paired R xs vs):∀ v∈vs,∃ u,R u v:=by
 induction h with
 | nil=>intro v h;cases h
 | cons r _ ih =>
   intro v h;rcases aC.mp h with rfl | h
   . exact ⟨_,r⟩
   . exact ih v h
theorem uX (h:Paired (fun (u:Str) (v:af)=>∃ k,v = .str u k) us vs):∀ i,i < vs.length->∃ u k,vs.getD i cm = .str u k/\(us.map D.str).getD i .non = .str u:=by
 induction h with
 | nil=>intro i h;cases h
 | cons r _ ih =>
   intro i h;obtain ⟨k,rfl⟩:=r
   cases i with
   | zero=>exact ⟨_,k,rfl,rfl⟩
   | succ i=>exact ih i (by simpa using h)
theorem Kl {M:Model} {A:ba} {E:af->ai->Prop} {s:ai} {us:List Str} {vs:List af} (p:Paired (fun (u:Str) (v:af)=>∃ k,v = .str u k) us vs) (h2:2<=vs.length) {Q:nV->ai->Prop} (q:Q oneType' s):wpAny M A (keyKind' vs.toArray) Q E s:=by
 refine kas_kind (T:=.type "str") h2 (fun v hv=>?_) (by decide) (by decide) q;obtain ⟨u,k,rfl⟩:=Dk p v hv;exact jx rfl
theorem MR (p:Paired (fun (u:Str) (v:af)=>∃ k,v = .str u k) us vs) (i j:Nat) (hi:i < vs.length) (hj:j < vs.length) (C:Bool->ai->Prop) (c:C (iG (us.map .str) i j) s):kas_ask prog w A' oneType' vs i j C s:=by
 obtain ⟨u,k,e1,e2⟩:=uX p i hi;obtain ⟨u',k',e3,e4⟩:=uX p j hj;unfold iG at c;rw [e2,e4,DI] at c;unfold kas_ask;rw [e1,e3,keyLt'_oneType];exact oneLt_str c
theorem ub (hc:X.calm = true) (hu:X.A.units+200 < cLine):cU X (.builtin "sorted") (fun xs H Q=>∃ a ts,xs = [.ref a]/\H a = some (Nt X a ts)/\ts.length < 64/\∀ p ys F,H p = none->aG X.K H F (eO (ts.map .str)) ys->Q (.ref p) (upd H p (.lst ys))):=by
 intro pins s σ H xs us0 Q I r h;obtain ⟨a,ts,rfl,hH,h64,q⟩:=h;obtain ⟨u,rfl,rx⟩:=vals1 r;cases rx;obtain ⟨hS,_,_⟩:=I.hok a _ hH;refine rV kind_sorted plain_sorted entry_sorted (args_sorted1 _) ?_;unfold fX.«sorted»;refine ab (m:=checkCount "sorted" 1 1 _) (aw (ab (vB (A:=X.A.in1) (I.ok.hd hc) hS (by lia) fun us vs d tk h1 pu pv k1=>ab (AI ?_ ?_))))
 . have hl:us.length = vs.length:=by
    have:=jG pv;have:=this.length;simpa using this
   have lu:us.length < 64:=by rw [pu.length_eq];exact h64
   have l3:vs.length = (us.map D.str).length:=by rw [ao];exact hl.symm
   have hlen:(fS (iG (us.map .str)) vs).length = vs.length:=by
    unfold fS;split
    . rfl
    . rw [ao,(gi vs.length).length_eq,oh]
   have small:∀ i∈(ans (iG (us.map D.str)) (kas_sort vs.length)).toList,i < vs.length:=fun i hi=>by simpa using (gi vs.length).mem_iff.mp hi
   have hv:∃ ys,Vals ys (fS (iG (us.map .str)) vs)/\aG X.K H (fun _=>False) (eO (us.map .str)) ys:=by
    unfold fS eO;have rl:aG X.K H (fun _=>False) (us.map .str) (us.map V.str):=nA us;have vv:=jG pv;by_cases h2:vs.length < 2
    . rw [if_pos h2,if_pos (by lia)];exact ⟨_,vv,rl⟩
    . rw [if_neg h2,if_neg (by lia),<- l3];exact ⟨_,qt vv _ fun i hi=>by rw [ao,hl];exact small i hi,qv rl _ fun i hi=>by rw [<- l3];exact small i hi⟩
   obtain ⟨ys,vy,ry⟩:=hv;rw [sA pu] at ry;have hL:(h1.push (seqObj "list" vs.toArray 0)).get? h1.objs.size = some (seqObj "list" vs.toArray 0):=aF _ rfl;refine ab (cE (bM slot_list_sort ⟨_,hL,rfl⟩ entry_list_sort ?_ (args_list_sort _)));refine mz (s:={ s with heap:=h1.push (seqObj "list" vs.toArray 0),drawn:=d,toks:=tk }) (lt:=iG (us.map .str)) (κ:=oneType') hL (by lia) hlen (fun h2 h' kp C c=>Kl pv h2 c) (fun h' kp i j hi hj C c=>MR pv i j hi hj C c) ?_
   . refine ⟨_,rfl,aw ⟨_,rfl,?_⟩⟩;have J:=I.call (h':=h1) (g':=s.gens) (d':=d) (t':=tk) (ch:=[]) (Un.kept k1) (I.hok.kept k1) I.bare (fun b z=>absurd z (by simp));obtain ⟨e,he⟩:=sortedHeap_at (out:=(fS (iG (us.map .str)) vs).toArray) hL
     have old:∀ b o,h1.get? b = some o->(sortedHeap (h1.push (seqObj "list" vs.toArray 0)) h1.objs.size vs (fS (iG (us.map .str)) vs).toArray).get? b = some o:=fun b o e=>by
      have lb:=aA e;rw [sortedHeap_old (aJ lb) (by rw [bH];exact bK lb)];exact ah _ e
     refine ⟨.ref h1.objs.size,upd H h1.objs.size (.lst ys),J.laid (t':=tk) old (aB _) ⟨?_,_,e,vy,he⟩,rfl,q _ _ _ (J.hok.fresh (aB _)) ry⟩;rw [ry.length,qW,ao,cj]
     lia
 . have:=(jG pv).length;rw [ao,pu.length_eq] at this;rw [cj]
   lia
end PP
end
section
namespace PP
open PySem PySem.Spec L2 PyProof.Rows
noncomputable def SH (P:aM) (w:bj) (D:av) (ts:List Str):HO:=.ext (nM P w D ts)
theorem zZ {P:aM} {w:bj} {D:av} {ts:List Str} (h1 h2:bJ) (x:nM P w D ts h1) (k:∀ o,h1.get? D = some o->h2.get? D = some o):nM P w D ts h2:=by
 obtain ⟨es,ep,t,us,g,r⟩:=x;exact ⟨es,ep,t,us,k _ g,r⟩
theorem xU {P:aM} {w:bj} {H:Hp} {h:bJ} {D:av} {ts:List Str} (x:nM P w D ts h):ff P w H h D (SH P w D ts):=by
 refine ⟨x,?_,zZ⟩;obtain ⟨es,ep,t,us,g,r⟩:=x;exact ⟨_,g⟩
noncomputable def wz (P:aM) (w:bj) (D:av) (te:TE):TU:=fun σ H Q=>te σ H fun y H'=>∃ x ts,y = .str x/\H' D = some (SH P w D ts)/\ts.length+1 < scanBound/\Q σ (upd H' D (SH P w D (jW ts x)))
theorem CT {X:Cx} {elt:aE} {te:TE} {D:av} (he:PE X elt te):PU X (do let v <- eval elt X.env;standAt elt.pos;let _ <- call (.builtin "set.add") [.ref D,v]) (wz X.prog X.w D te):=by
 intro pins s σ H Q I h;refine ab (thn (he pins s σ H _ I h) fun u s1 ⟨y,H1,I1,r1,x,ts,e,hD,hz,q⟩=>ab (fu (ab ?_)));subst e;obtain ⟨tk,rfl⟩:=r1;obtain ⟨hS,_,_⟩:=I1.hok D _ hD;refine EJ hS hz fun h' sb hx=>aw ⟨σ,_,I1.write (o:=SH X.prog X.w D (jW ts x)) (by rw [hD];trivial) (.inl rfl) (fun b o hb e=>sb.extBut b o hb e) ?_ (xU hx),q⟩;obtain ⟨es,ep,t,us,g,r⟩:=hx;exact ⟨_,g⟩
noncomputable def tIn (P:aM) (w:bj) (wi:TI) (g:TG) (tt:TT) (D:av) (te:TE):TU:=fun σ H Q=>wi σ H fun J H'=>tLp J g tt (wz P w D te) σ H' Q
noncomputable def tTr:TT:=fun _ H Q=>Q true H
section
variable {prog:aM} {w:bj} {A:ba} {R:xB->ai->Prop} {s:ai}
theorem qV (hg:gs[d]? = some g) (ha:g.is_async = 0)
 (h0:codeAny (model prog w) A (.compLoop (.SetComp elt gs scope pos) d it acc env) R s)
 (h:wpAny (model prog w) A (pyIter it) (fun it' s'=>codeAny (model prog w) A (.compLoop (.SetComp elt gs scope pos) d it' acc env) R s') (notedBy (model prog w) A env fun x s'=>R (.error x) s') s) :
 codeAny (model prog w) A (.compStart (.SetComp elt gs scope pos) d it acc env) R s:=by
 apply codeAny_of_tree;show wpAny _ _ ((compStart (.SetComp elt gs scope pos) d it acc env).onRaise (fun x=>do noteFrame x env;standAt theWindowsPlace)) _ _ s;apply wpAny_notedAt;unfold compStart;have hc:(clausesOf (.SetComp elt gs scope pos))[d]? = some g:=hg;rw [hc];have hn:(Option.elim (some g) false fun x=>x.is_async != 0) = false:=by show (g.is_async != 0) = false;rw [ha];rfl
 rw [hn];show wpAny _ _ (ask >>= fun _=>_) _ _ s;refine ab (eM (wpAny_ite ?_));split
 . exact aw ⟨rfl,h0⟩
 . exact ab (iI (ab (fu (ab (iJ h (fun it' s' h'=>aw ⟨rfl,h'⟩) fun _ _ x=>x)))))
end
theorem zJ (elt t1 i1 t2 i2:aE) (f1 f2:List aE) (scope:dS) (pos:Pos) (it acc:af) (env:Env):compTurn (.SetComp elt [⟨t1,i1,f1,0⟩,⟨t2,i2,f2,0⟩] scope pos) 1 it acc env = (do
 standAt i2.pos
 match <- pyNext it with
 | none=>pure (.done .next)
 | some v =>
   letOwnedTupleGo t2 it v
   assign t2 env v
   let mut ok:=true
   for c in f2 do
    if ok then ok <- isTrue c env (eval c env)
   if ok then (do let v <- eval elt env;standAt elt.pos;let _ <- call (.builtin "set.add") [acc,v])
   again (.compLoop (.SetComp elt [⟨t1,i1,f1,0⟩,⟨t2,i2,f2,0⟩] scope pos) 1 it acc env)):=by rfl
theorem zK (elt t1 i1 t2 i2:aE) (f1 f2:List aE) (scope:dS) (pos:Pos) (it acc:af) (env:Env):compTurn (.SetComp elt [⟨t1,i1,f1,0⟩,⟨t2,i2,f2,0⟩] scope pos) 0 it acc env = (do
 standAt i1.pos
 match <- pyNext it with
 | none=>pure (.done .next)
 | some v =>
   letOwnedTupleGo t1 it v
   assign t1 env v
   let mut ok:=true
   for c in f1 do
    if ok then ok <- isTrue c env (eval c env)
   if ok then (do
    let x <- eval i2 env
    standAt i2.pos
    let x <- foldedSetIterable i2 env x
    let _ <- runOwn (.compStart (.SetComp elt [⟨t1,i1,f1,0⟩,⟨t2,i2,f2,0⟩] scope pos) 1 (<- holding [x] (pyIter x)) acc env) env)
   again (.compLoop (.SetComp elt [⟨t1,i1,f1,0⟩,⟨t2,i2,f2,0⟩] scope pos) 0 it acc env)):=by
 unfold compTurn;simp only [List.getElem?_cons_zero,vO,bne_self_eq_false,aZ,if_false,bind_assoc,pure_bind];rfl
theorem CS {X:Cx} {elt t1 i1 t2 i2:aE} {f1 f2:List aE} {scope:dS} {pos:Pos} {wi:TI} {g:TG} {tt:TT} {te:TE} {D:av} (hx:X.xe = fun _ _=>False) (hc:X.calm = true)
 (hi:PI X t2 i2 wi) (hg:PG X t2 g) (ht:PTs X f2 tt) (he:PE X elt te) (hs:∀ x,foldedSetIterable i2 X.env x = pure x) :
 PU X (do
  let x <- eval i2 X.env
  standAt i2.pos
  let x <- foldedSetIterable i2 X.env x
  let _ <- runOwn (.compStart (.SetComp elt [⟨t1,i1,f1,0⟩,⟨t2,i2,f2,0⟩] scope pos) 1 (<- holding [x] (pyIter x)) (.ref D) X.env) X.env) (tIn X.prog X.w wi g tt D te):=by
 intro pins s σ H Q I h;refine ab (thn (hi pins s σ H _ I h) fun v s1 h1=>ab (fu (ab (nS (hs v) (ab (cE (thn h1 fun itv s2 h2=>?_)))))));obtain ⟨it,fp,tn,J,H2,e,I2,T,st2,f2',q⟩:=h2;subst e;refine ab (wpAny_runOwn (h:=none) ?_);rw [show X.A.mark none = X.A from rfl]
 have loop:∀ (R:xB->ai->Prop),(∀ s' σ' H',Inv X pins σ' H' s'->Q σ' H'->R (.ok .next) s')->codeAny (model X.prog X.w) X.A (.compLoop (.SetComp elt [⟨t1,i1,f1,0⟩,⟨t2,i2,f2,0⟩] scope pos) 1 (.ref it) (.ref D) X.env) R s2:=fun R hR =>
  yO (e:=.SetComp elt [⟨t1,i1,f1,0⟩,⟨t2,i2,f2,0⟩] scope pos) (d:=1) (acc:=.ref D) (ip:=i2.pos) (body:=(do let v <- eval elt X.env;standAt elt.pos;let _ <- call (.builtin "set.add") [.ref D,v])) hx hc rfl rfl rfl (zJ ..) T hg ht (CT he) I2 st2 f2' q hR
 refine qV (g:=⟨t2,i2,f2,0⟩) rfl rfl (loop _ ?_) (T.self _ _ _ _ _ st2 (loop _ ?_))
 . exact fun s' σ' H' J' q'=>aw ⟨σ',H',J',q'⟩
 . exact fun s' σ' H' J' q'=>aw ⟨σ',H',J',q'⟩
noncomputable def tSC (P:aM) (w:bj) (k:Nat) (w1:TI) (g1:TG) (w2:TI) (g2:TG) (tt:TT) (te:TE):TE:=fun σ H Q=>w1 σ H fun J H1=>∀ D,H1 D = none ->
 tLp J g1 tTr (tIn P w w2 g2 tt D te) (σ++aN k none) (upd H1 D (SH P w D [])) fun _ H2=>Q (.ref D) H2
noncomputable def My (led:Bool):Obj:={ cls:=.type "set",dict:=none,data:=.set #[] 0 (.fresh 0 0 led) }
theorem An {prog:aM} {w:bj} {A:ba} {E:af->ai->Prop} {s:ai} {Q:af->ai->Prop} (h:Q (.ref s.heap.objs.size) { s with heap:=s.heap.push (My (!w.params.followText "set-order")) }):wpAny (model prog w) A (newSet (.type "set")) Q E s:=by
 unfold newSet setsByText;simp only [bind_assoc,pure_bind];exact ab (eM (aR h))
theorem Af
 (hx:X.xe = fun _ _=>False) (hc:X.calm = true) (S:nQ X scope) (hN:∀ i x,i < X.N.length->Nc[i]? = some x->Vis scope x->X.N[i]? = some x/\scope.names.lookup x = some .free) (hl:X.N.length<=Nc.length)
 (hi:PI X t1 i1 w1) (hg:∀ cl C s H fp,PG (cxC X scope cl C Nc s H fp) t1 g1) (hi2:∀ cl C s H fp,PI (cxC X scope cl C Nc s H fp) t2 i2 w2) (hg2:∀ cl C s H fp,PG (cxC X scope cl C Nc s H fp) t2 g2) (ht:∀ cl C s H fp,PTs (cxC X scope cl C Nc s H fp) f2 tt) (he:∀ cl C s H fp,PE (cxC X scope cl C Nc s H fp) elt te)
 (hs:∀ x,foldedSetIterable i1 X.env x = pure x) (hs2:∀ env x,foldedSetIterable i2 env x = pure x):PE X (.SetComp elt [⟨t1,i1,[],0⟩,⟨t2,i2,f2,0⟩] scope pos) (tSC X.prog X.w (Nc.length - X.N.length) w1 g1 w2 g2 tt te):=by
 intro pins s σ H Q I h;have ee:eval (.SetComp elt [⟨t1,i1,[],0⟩,⟨t2,i2,f2,0⟩] scope pos) X.env = comprehension (.SetComp elt [⟨t1,i1,[],0⟩,⟨t2,i2,f2,0⟩] scope pos) scope X.env i1.pos (newSet (.type "set")) false (eval i1 X.env):=by rfl
 rw [ee];refine kI (use:=none) rfl hs (xm fun x hz=>I.ok.has x (S.free x hz)) S.kind S.names (thn (hi pins s σ H _ I h) fun v s1 h1=>thn h1 fun itv s2 h2=>?_);obtain ⟨it,fp,tn,J,H2,e,I2,T,st2,f2',q⟩:=h2;subst e;refine An ?_;have hfr:=I2.fresh;generalize hno:My (!X.w.params.followText "set-order") = no;have gD:(s2.heap.push no).get? s2.heap.objs.size = some no:=aF _ (by rw [<- hno];rfl)
 have sx:nM X.prog X.w s2.heap.objs.size [] (s2.heap.push no):=by
  subst hno;exact ⟨#[],0,.fresh 0 0 (!X.w.params.followText "set-order"),[],gD,rfl,rfl,.inl rfl,.refl _,fun e he=>by simp at he,.nil⟩
 have I3:Inv X pins σ (upd H2 s2.heap.objs.size (SH X.prog X.w s2.heap.objs.size [])) { s2 with heap:=s2.heap.push no }:=I2.laid (t':=s2.toks) (fun b u e=>ah _ e) (aB _) (xU sx);have st3:tn 0 (s2.heap.push no):=T.keep _ _ _ st2 fun b _ o e=>ah _ e
 have fl3:∀ b∈fp,b < s2.heap.objs.size:=fun b hb=>by
  obtain ⟨o,e,_⟩:=T.obj _ _ st2 b hb;exact aA e
 have ne3:∀ b∈fp,upd H2 s2.heap.objs.size (SH X.prog X.w s2.heap.objs.size []) b = none:=fun b hb=>by rw [bq (aJ (fl3 b hb))];exact (f2' b hb).1
 have f3:∀ b∈fp,jX X pins (upd H2 s2.heap.objs.size (SH X.prog X.w s2.heap.objs.size [])) b:=fun b hb=>⟨ne3 b hb,(f2' b hb).2⟩;have q3:=q s2.heap.objs.size hfr;generalize hH3:upd H2 s2.heap.objs.size (SH X.prog X.w s2.heap.objs.size []) = H3 at I3 ne3 f3 q3;generalize hs3:({ s2 with heap:=s2.heap.push no }:ai) = s3 at I3;have hs3h:s3.heap = s2.heap.push no:=by rw [<- hs3]
 rw [<- hs3h] at st3;have fl4:∀ b∈fp,b < s3.heap.objs.size:=fun b hb=>by rw [hs3h,bH];exact bK (fl3 b hb)
 refine iP S.nocell (by intro y hy;simp at hy) (fun h1 hns hsb=>?_) S.kind;have keep1:∀ b o,s3.heap.get? b = some o->h1.get? b = some o:=fun b o e=>hsb.extBut b o (aJ (aA e)) (ah _ e);have J0:=nE (h1:=h1) (t1:=s3.toks+([]:List (Str × af)).length) S I3 f3 fl4 rfl (by simpa using hns) keep1 hN hl;have st4:tn 0 h1:=T.keep _ _ _ st3 fun b _ o e=>keep1 b o e
 have loop:∀ s4:ai,s4 = { s3 with heap:=h1,toks:=s3.toks+([]:List (Str × af)).length } ->
  codeAny (model X.prog X.w) X.A (.compLoop (.SetComp elt [⟨t1,i1,[],0⟩,⟨t2,i2,f2,0⟩] scope pos) 0 (.ref it) (.ref s2.heap.objs.size) (compEnvC scope (gR X.env scope.names []) s3.heap.objs.size X.env))
   (compPost (model X.prog X.w) X.A X.xe none (EP X pins σ Q) (.ref s2.heap.objs.size) s3.heap.objs.size) s4:=by
  rintro s4 rfl;refine yO (X:=cxC X scope (gR X.env scope.names []) s3.heap.objs.size Nc s3 H3 fp) (ip:=i1.pos) (ifs:=[]) (tt:=tTr) rfl hc rfl rfl rfl (zK ..) T (hg _ _ _ _ _) yg (CS rfl hc (hi2 _ _ _ _ _) (hg2 _ _ _ _ _) (ht _ _ _ _ _) (he _ _ _ _ _) (hs2 _)) J0 st4 (lO S I3 f3 fl4 rfl ne3) q3 ?_;intro s' σ' H' J' q';obtain ⟨m,hn,_⟩:=J'.loc;exact ⟨m,hn,fun h2 hs2=>⟨.ref s2.heap.objs.size,H',lN I3 f3 rfl J' hs2,rfl,q'⟩⟩
 exact qV (g:=⟨t1,i1,[],0⟩) rfl rfl (loop _ rfl) (T.self _ _ _ _ _ st4 (loop _ rfl))
section
variable {prog:aM} {w:bj} {A:ba} {R:xB->ai->Prop} {I:av} {fp wr:List av} {G:Array HE->Array HE->Prop} {n:Nat} {P:Nat->af->Prop} {St:Nat->ai->Prop}
end
section
variable {prog:aM} {w:bj} {A:ba} {E:af->ai->Prop} {s:ai}
end
variable [Tbs]
end PP
end
section
namespace PP
open PySem L2 PyProof.Rows
variable [Tbs]
section
variable {K:PySem.W.Frag} {cx:Cl} {P:aM} {w:bj}
theorem Ok.enterX (h:Ok K G F σ H δ) (hp:H p = none) (φ:bJ->Prop):Ok K (G.and p) (fun b=>F b\/b = p) σ (upd H p (.ext φ)) δ/\Step G F H (fun b=>F b\/b = p) (upd H p (.ext φ)):=h.enterO hp trivial
theorem Ok.pokeX {G:Gh} {H:Hp} {F:av->Prop} {σ:L2.St} {δ:Loc} {p:av} {φ:bJ->Prop} (h:Ok K (G.and p) F σ H δ) (hg:G.free p) (hP:H p = some (.ext φ)) (ψ:bJ->Prop):Ok K (G.and p) F σ (upd H p (.ext ψ)) δ:=h.pokeO hg hP trivial trivial
noncomputable def inF (cx:Cl) (tg:Tg) (ifs:Eo) (elt:E):D->Loc->Option (List D × Loc):=fun y δi=>do
 let δd <- dv δi tg y
 let (b,δe) <- evG cx ifs δd
 if b then do
  let (z,δf) <- evE cx elt δe
  return ([z],δf)
 else return ([],δe)
noncomputable def outF (cx:Cl) (k:Nat) (tg1:Tg) (tg2:Tg) (src2:It) (ifs:Eo) (elt:E):D->Loc->Option (List D × Loc):=fun x δ0=>do
 let δa <- dv (δ0++aN k .no) tg1 x
 let (es,δb) <- evI cx src2 δa
 let (zs,δc) <- gf (inF cx tg2 ifs elt) es δb
 return (zs,δc.take δ0.length)
theorem xP (ev:evE cx (.sset k tg1 src1 tg2 src2 ifs elt) δ = some (d,δ')) :
 ∃ ds δ1 ys xs,evI cx src1 δ = some (ds,δ1)/\gf (outF cx k tg1 tg2 src2 ifs elt) ds δ1 = some (ys,δ')/\fJ ys = some xs/\xs.length < 4000/\(gI xs).length < 64/\d = .lst (eO ((gI xs).map .str)):=by
 simp only [evE,ag,ae] at ev;obtain ⟨⟨ds,δ1⟩,ea,⟨ys,δ2⟩,eb,ev⟩:=ev;dsimp only at ev;split at ev
 . rename_i xs hx;split at ev
   . rename_i hh;cases ev;exact ⟨ds,δ1,ys,xs,ea,eb,hx,hh.1,hh.2,rfl⟩
   . cases ev
 . cases ev
theorem Hb (h:inF cx tg ifs elt x δ0 = some (o,δ1)):∃ δ2 b δ3,dv δ0 tg x = some δ2/\evG cx ifs δ2 = some (b,δ3) /\
 ((b = true/\∃ y,evE cx elt δ3 = some (y,δ1)/\o = [y])\/(b = false/\o = []/\δ1 = δ3)):=by
 unfold inF at h;simp only [ag,ae] at h;obtain ⟨δ2,e1,⟨b,δ3⟩,e2,h⟩:=h;refine ⟨δ2,b,δ3,e1,e2,?_⟩
 cases b with
 | true =>
   simp only [if_true,ae] at h;obtain ⟨⟨y,δ4⟩,e3,h⟩:=h;cases h
   exact .inl ⟨rfl,y,e3,rfl⟩
 | false =>
   simp only [aZ,if_false] at h;cases h;exact .inr ⟨rfl,rfl,rfl⟩
theorem Dl (h:outF cx k tg1 tg2 src2 ifs elt x δ0 = some (o,δ1)):∃ δa es δb δc,dv (δ0++aN k .no) tg1 x = some δa/\evI cx src2 δa = some (es,δb)/\gf (inF cx tg2 ifs elt) es δb = some (o,δc)/\δ1 = δc.take δ0.length:=by
 unfold outF at h;simp only [ag,ae] at h;obtain ⟨δa,e1,⟨es,δb⟩,e2,⟨zs,δc⟩,e3,h⟩:=h;cases h;exact ⟨δa,es,δb,δc,e1,e2,e3,rfl⟩
theorem qk {f:D->Loc->Option (List D × Loc)} {x:D} {xs ys:List D} {δ δ':Loc} (h:gf f (x::xs) δ = some (ys,δ')):∃ o δ1 zs,f x δ = some (o,δ1)/\gf f xs δ1 = some (zs,δ')/\ys = o++zs:=by
 unfold gf at h;simp only [ag,ae] at h;obtain ⟨⟨o,δ1⟩,e1,⟨zs,δ2⟩,e2,h⟩:=h;cases h;exact ⟨o,δ1,zs,e1,e2,rfl⟩
theorem pL:∀ {a b:List D} {xs:List Str},fJ (a++b) = some xs->∃ xa xb,fJ a = some xa/\fJ b = some xb/\xs = xa++xb
 | [],b,xs,h=>⟨[],xs,rfl,h,rfl⟩
 | d::a,b,xs,h=>by
   cases d<;>first | (simp [fJ] at h;done) | skip
   rename_i x;rw [fH] at h;simp only [fJ,aI] at h;obtain ⟨ys,h1,rfl⟩:=h;obtain ⟨xa,xb,e1,e2,rfl⟩:=pL h1;exact ⟨x::xa,xb,by simp [fJ,e1],e2,rfl⟩
theorem vL (ts:List Str) (x:Str):(jW ts x).length<=ts.length+1:=by
 unfold jW;split
 . lia
 . simp
theorem DX {G:Gh} {F1:av->Prop} {H1:Hp} {σ:L2.St} {J:L2.It} {es ys:List D} {δ1 δ2:Loc} {tg:Tg} {ifs:Eo} {elt:E} {p:av} {ts xs:List Str} {Q:L2.St->Hp->Prop} (n:(!bL elt) = true) (hg:G.free p)
 (ok1:Ok K (G.and p) F1 σ H1 δ1) (wk:Wk K G F1 H1 J es) (hD:H1 p = some (SH P w p ts)) (ev:gf (inF cx tg ifs elt) es δ1 = some (ys,δ2)) (hx:fJ ys = some xs) (hr:ts.length+xs.length < 4090)
 (q:∀ σ' H2 F2,σ'.length = σ.length->(∀ m,lG m tg = true->σ'.take m = σ.take m)->Ok K (G.and p) F2 σ' H2 δ2->H2 p = some (SH P w p (xs.foldl jW ts))->Step G F1 H1 F2 H2->((npO ifs && np elt) = true->∀ H0,H0 p = none->Sim H0 H1->Sim H0 H2)->Q σ' H2) :
 tLp J (gTg K tg) (tG K cx ifs) (wz P w p (tE K cx elt)) σ H1 Q:=by
 have hFs:∀ b,G.R b->(G.and p).R b:=fun b z=>.inl z
 refine tj (P:=fun r F' σc Hc=>∃ δi zs xr ti,σc.length = σ.length/\(∀ m,lG m tg = true->σc.take m = σ.take m)/\Ok K (G.and p) F' σc Hc δi/\gf (inF cx tg ifs elt) r δi = some (zs,δ2)/\fJ zs = some xr/\Hc p = some (SH P w p ti)/\xr.foldl jW ti = xs.foldl jW ts/\ti.length+xr.length < 4090/\Step G F1 H1 F' Hc /\
  ((npO ifs && np elt) = true->∀ H0,H0 p = none->Sim H0 H1->Sim H0 Hc)) wk (fun r F σ H z=>by obtain ⟨_,_,_,_,_,_,ok,_,_,_,_,_,st,_⟩:=z;exact ⟨st,ok.fd⟩) ⟨δ1,ys,xs,ts,rfl,fun _ _=>rfl,ok1,ev,hx,hD,rfl,hr,Step.refl,fun _ _ _ z=>z⟩ ?_ ?_
 . rintro d r F' σc H3 x N ⟨δi,zs,xr,ti,hl,htk,ok,el,exr,eD,ef,hr',st,sm⟩ rx hN;have hF:F' p:=ok.rf p (.inr rfl);obtain ⟨o,δ5,zs',eo,el',rfl⟩:=qk el;obtain ⟨δ6,b,δ7,es6,eg,alt⟩:=Hb eo;refine kL ok rx es6 fun σ2 ok6 htake=>?_
   have l2:σ2.length = σ.length:=by
    have a1:=ok.len;have a2:=ok6.len;have e1:=ny es6
    lia
   have t2:∀ m,lG m tg = true->σ2.take m = σ.take m:=fun m hm=>(htake m hm).trans (htk m hm);refine ⟨G.and p,F',δ6,b,δ7,ok6,eg,fun H7 F7 st7 sm7 ok7=>?_⟩;have keepD:∀ {F8:av->Prop} {H8:Hp},Step (G.and p) F' H3 F8 H8->H8 p = some (SH P w p ti):=fun s8=>(s8.res p _ (.inr rfl) hF eD).2;rcases alt with ⟨rfl,y,ee,rfl⟩ | ⟨rfl,rfl,rfl⟩
   . refine hZ ?_;refine ⟨G.and p,F7,δ7,y,δ5,ok7,ee,fun u H8 F8 st8 sm8 ok8 r8=>?_⟩;have s78:=st7.trans st8;have eD8:=keepD s78;have ry:=en n r8;obtain ⟨xa,xb,ea,eb,rfl⟩:=pL exr
     have hy':∃ x0,y = .str x0/\xa = [x0]:=by
      cases y<;>first | (simp [fJ] at ea;done) | skip
      simp [fJ] at ea;exact ⟨_,rfl,ea.symm⟩
     obtain ⟨x0,rfl,rfl⟩:=hy';unfold Rel at ry;have hF8:F8 p:=ok8.rf p (.inr rfl);have hal:=vL ti x0;rw [aj,aV] at hr';refine ⟨x0,ti,ry,eD8,by show ti.length+1 < 4096;lia,hN F8 _ _ ⟨δ5,zs',xb,jW ti x0,l2,t2,ok8.pokeX hg eD8 _,el',eb,bP,?_,by lia,?_,fun z H0 h0 s0=>?_⟩⟩
     . rw [<- ef];rfl
     . have s1:=st.trans (s78.sub hFs);have hF1:F1 p:=ok1.rf p (.inr rfl);refine ⟨fun b o t e nf=>?_,s1.grow,fun b o r f e=>?_,fun b ps e=>?_⟩
       . rw [bq (fun w:b = p=>nf (by rw [w];exact hF1))];exact s1.keep b o t e nf
       . obtain ⟨a1,a2⟩:=s1.res b o r f e;refine ⟨a1,?_⟩;rw [bq (fun w:b = p=>hg.2 (by rw [<- w];exact r))];exact a2
       . rw [bq (fun w:b = p=>by rw [w,hD] at e;cases e)];exact s1.tb b ps e
     . have z':=z;rw [aa] at z';exact (((sm z H0 h0 s0).trans (sm7 z'.1)).trans (sm8 z'.2)).new h0
   . refine iN ?_;refine hN F7 _ _ ⟨_,zs',xr,ti,l2,t2,ok7,el',exr,keepD st7,ef,hr',st.trans (st7.sub hFs),fun z H0 h0 s0=>?_⟩;have z':=z;rw [aa] at z';exact (sm z H0 h0 s0).trans (sm7 z'.1)
 . rintro F' σc Hc ⟨δi,zs,xr,ti,hl,htk,ok,el,exr,eD,ef,hr',st,sm⟩;cases el;have:xr = []:=by simpa [fJ] using exr.symm
   subst this;exact q _ Hc F' hl htk ok (by rw [<- ef];exact eD) st sm
end
end PP
end
section
namespace PP
open PySem L2 PyProof.Rows
noncomputable def fzO (b:av) (o:Obj):HO:=.frz o (.ext fun h=>h.get? b = some o)
noncomputable def kl (H:Hp) (cs:List (av × Obj)):Hp:=fun b=>match cs.lookup b with
 | some o=>some (fzO b o)
 | none=>H b
noncomputable def gQ (H:Hp) (cs:List (av × Obj)):Hp:=fun b=>match cs.lookup b with
 | some _=>none
 | none=>H b
section
variable {P:aM} {w:bj} {H H':Hp} {h h':bJ} {cs:List (av × Obj)}
theorem mP (e:cs.lookup b = some o):kl H cs b = some (fzO b o):=by unfold kl;rw [e]
theorem dg (e:cs.lookup b = none):kl H cs b = H b:=by unfold kl;rw [e]
theorem kU (e:cs.lookup b = some o):gQ H cs b = none:=by unfold gQ;rw [e]
theorem cI (e:cs.lookup b = none):gQ H cs b = H b:=by unfold gQ;rw [e]
noncomputable def Un0 (H:Hp) (h:bJ) (cs:List (av × Obj)):Prop:=∀ b o,cs.lookup b = some o->H b = none/\h.get? b = some o
theorem yX (c:Un0 H h cs) (e:H b = some u):kl H cs b = some u:=by
 cases q:cs.lookup b with
 | none=>rw [dg q];exact e
 | some o=>rw [(c b o q).1] at e;cases e
theorem ff.mono:∀ {u:HO},ff P w H h a u->(∀ b x,(∀ o,x≠fzO b o)->H b = some x->H' b = some x)->ff P w H' h a u
 | .lst _,x,_=>x
 | .tup _,x,_=>x
 | .dK _,x,_=>x
 | .dT kvs,x,k=>by
   obtain ⟨x1,x2,xs,x3,x4⟩:=x
   refine ⟨x1,x2,xs,L2.Paired.mapP x3 fun p q z=>⟨z.1,k _ _ (fun o=>by unfold fzO;intro z;cases z) z.2.1,z.2.2⟩,x4⟩
 | .set _ _,x,_=>x
 | .ins _ _ _,x,k=>by
   obtain ⟨x1,x2⟩:=x
   exact ⟨k _ _ (fun o=>by unfold fzO;intro z;cases z) x1,x2⟩
 | .own _,x,_=>x
 | .xd _,x,_=>x
 | .met _ _,x,_=>x
 | .rng _ _,x,_=>x
 | .frz _ u,x,k=>⟨x.1,ff.mono x.2 k⟩
 | .tbl _,x,_=>x
 | .ext _,x,_=>x
theorem HOk.add (x:HOk P w H h) (c:Un0 H h cs):HOk P w (kl H cs) h:=fun a u e=>by
 cases q:cs.lookup a with
 | none =>
   rw [dg q] at e
   exact ff.mono (x a u e) fun b y _ z=>yX c z
 | some o =>
   rw [mP q] at e;cases e;have g:=(c a o q).2;exact ⟨g,g,⟨o,g⟩,fun h1 h2 e1 k=>k _ e1⟩
noncomputable def Fz0 (H:Hp) (cs:List (av × Obj)):Prop:=∀ b o,cs.lookup b = some o->H b = some (fzO b o)
theorem HOk.del (x:HOk P w H h) (c:Fz0 H cs):HOk P w (gQ H cs) h:=fun a u e=>by
 cases q:cs.lookup a with
 | some o=>rw [kU q] at e;cases e
 | none =>
   rw [cI q] at e;refine ff.mono (x a u e) fun b y n z=>?_
   cases r:cs.lookup b with
   | none=>rw [cI r];exact z
   | some o =>
     rw [c b o r] at z;cases z;exact absurd rfl (n o)
theorem Un.del (u:Un fs ex (kl H cs) H' h h') (x:HOk P w H' h') (c:Un0 H h cs) (nf:∀ b o,cs.lookup b = some o->b∉fs/\b∉ex):Un fs ex H (gQ H' cs) h h'/\Fz0 H' cs:=by
 have fz:Fz0 H' cs:=fun b o e=>u.frzs b o _ (mP e);refine ⟨⟨fun b o e n hb hx=>?_,fun b o e n hb hx=>?_,fun b o e n hx=>?_,u.there,fun b xs e=>?_,fun b o y e=>?_,fun b ps e=>?_⟩,fz⟩
 . cases q:cs.lookup b with
   | none=>exact u.keep b o e (by rw [dg q];exact n) hb hx
   | some o' =>
     have g:=(c b o' q).2;rw [e] at g;cases g;exact (x b _ (fz b o q)).1
 . cases q:cs.lookup b with
   | none=>exact u.slot b o e (by rw [dg q];exact n) hb hx
   | some o'=>exact absurd hb (nf b o' q).1
 . cases q:cs.lookup b with
   | none=>rw [cI q];exact u.free b o e (by rw [dg q];exact n) hx
   | some o'=>exact kU q
 . cases q:cs.lookup b with
   | none=>rw [cI q];exact u.tups b xs (by rw [dg q];exact e)
   | some o'=>rw [(c b o' q).1] at e;cases e
 . cases q:cs.lookup b with
   | none=>rw [cI q];exact u.frzs b o y (by rw [dg q];exact e)
   | some o'=>rw [(c b o' q).1] at e;cases e
 . cases q:cs.lookup b with
   | none=>rw [cI q];exact u.tbls b ps (by rw [dg q];exact e)
   | some o'=>rw [(c b o' q).1] at e;cases e
theorem ug.add {K:PySem.W.Frag} {mg:Str->Option af} {base:bJ} {A:ba} {outer:List Env} {s:ai} (e:ug P w K mg base A outer s H) (c:Un0 H s.heap cs) (nb:∀ b o,cs.lookup b = some o->base.get? b = none/\b∉frs outer):ug P w K mg base A outer s (kl H cs) :=
 ⟨e.frames,e.mod,fun b o z=>⟨(e.bs b o z).1,by
   cases q:cs.lookup b with
   | none=>rw [dg q];exact (e.bs b o z).2
   | some o'=>rw [(nb b o' q).1] at z;cases z⟩,e.bsz,e.funs,fun b hb=>by
   cases q:cs.lookup b with
   | none=>rw [dg q];exact e.frf b hb
   | some o'=>exact absurd hb (nb b o' q).2,HOk.add e.hok c,e.bare⟩
end
theorem Inv.callF (I:Inv X pins σ H s) (c:Un0 H s.heap cs) (nf:∀ b o,cs.lookup b = some o->b∉frs X.stack)
 (h:CE X.stack X.prog X.w (kl H cs) s Q u s'):∃ v H',Inv X pins σ (gQ H' cs) s'/\RelV v u/\Fz0 H' cs/\Q v H':=by
 obtain ⟨v,H',os,bare,un,hok,r,qq⟩:=h;obtain ⟨hh,g,d,t,os'⟩:=s';obtain rfl:os' = s.os:=os;obtain ⟨un',fz⟩:=Un.del un hok c fun b o e=>⟨nf b o e,by simp⟩;exact ⟨v,H',I.call (h':=hh) (g':=g) (d':=d) (t':=t) (ch:=[]) un' (HOk.del hok fz) bare (fun b z=>absurd z (by simp)),r,fz,qq⟩
end PP
end
section
namespace PP
open PySem L2 PyProof.Rows
variable [Tbs]
section
variable {K:PySem.W.Frag} {H:Hp} {F:av->Prop}
end
section
variable {X:Cx} {cx:Cl}
end
section
variable {cx:Cl} {k:Nat}
theorem gy:∀ {es:Es},gL es = true->nD es = true
 | .nil,_=>rfl
 | .cons e es,h=>by
   have h':(!bL e && gL es) = true:=h;rw [aa] at h';show ((!bL e || npS es) && nD es) = true;rw [h'.1,gy h'.2];rfl
theorem jm:∀ {es:Es} {ys:List aE},gc c es ys = true->(backTo pos (starEach ys env)).any (·.1) = false
 | .nil,ys,h=>by obtain ⟨rfl,_⟩:=fy h;rfl
 | .cons e es,ys,h=>by
   obtain ⟨_,_,rfl,hh⟩:=eu h;rw [aa] at hh;rw [cK (bX hh.1)];show (false || (backTo pos (starEach _ env)).any (·.1)) = false;rw [jm hh.2];rfl
theorem mh (C:Cok X c cx k) (h:jJ c sc = true):nQ X sc:=by
 unfold jJ at h;rw [aa,dY] at h;obtain ⟨h1,h2⟩:=h
 have q:∀ p∈sc.names,p.2≠.cell/\(p.2 = .local->sc.names.lookup p.1 = some .local)/\(p.2 = .free->c.sc.names.lookup p.1 = some .cell\/c.sc.names.lookup p.1 = some .free):=fun p hp=>by
  have z:=h2 p hp;rw [aa,aa] at z;obtain ⟨⟨a,b⟩,d⟩:=z;refine ⟨of_decide_eq_true a,fun e=>?_,fun e=>?_⟩
  . rw [cw] at b;rcases b with b | b
    . simp [e] at b
    . exact of_decide_eq_true b
  . rw [cw] at d;rcases d with d | d
    . simp [e] at d
    . split at d
      . exact .inl ‹_›
      . exact .inr ‹_›
      . cases d
 exact ⟨of_decide_eq_true h1,fun y hy=>(q y hy).1,fun y hy e=>(q y hy).2.1 e,fun x hx=>C.kc x ((q _ hx).2.2 rfl)⟩
theorem dR (C:Cok X c cx k) (h:jJ c sc = true) (hn:Nc.Nodup) (cl:List (Str × av)) (Ca:av) (s:ai) (H:Hp) (fp:List av):Cok (cxC X sc cl Ca Nc s H fp) ⟨Nc,sc,c.fns,c.gn⟩ cx k:=by
 have S:=mh C h;have kd:∀ x,(cxC X sc cl Ca Nc s H fp).env.kindOf x = (sc.names.lookup x).map fun k=>if (k == bQ && X.env.scope.kind == .function && X.env.kindOf x == some .cell) then lx else k:=fun x=>nJ x
 refine ⟨rfl,hn,fun x hx=>?_,fun x hx=>?_,fun x hx=>?_,fun x hx=>?_,C.calm,rfl,C.room,C.fns,C.fnF,C.fnO,C.lam,C.blt,C.glob,C.gsome,C.gds,C.pos⟩
 . have e:=kd x;show (cxC X sc cl Ca Nc s H fp).env.kindOf x = some .local\/(cxC X sc cl Ca Nc s H fp).env.kindOf x = some .cell\/(cxC X sc cl Ca Nc s H fp).env.kindOf x = some .free;rw [e];rcases hx with hx | hx | hx
   . rw [hx];exact .inl rfl
   . exact absurd rfl (S.nocell _ (PySem.mem_of_lookup hx))
   . rw [hx];simp only [da];split
     . exact .inr (.inl rfl)
     . exact .inr (.inr rfl)
 . show (cxC X sc cl Ca Nc s H fp).env.kindOf x = some .globalImplicit;rw [kd x];have hx:sc.names.lookup x = some .globalImplicit:=hx;rw [hx];rfl
 . have:sc.names.lookup x = some .local:=by
    rcases hx with hx | hx
    . exact hx
    . exact absurd rfl (S.nocell _ (PySem.mem_of_lookup hx))
   have e:(cxC X sc cl Ca Nc s H fp).env.kindOf x = some .local:=by rw [kd x,this];rfl
   exact ⟨.inl e,.inr e⟩
 . rw [kd x];have hx:sc.names.lookup x = some .cell\/sc.names.lookup x = some .free:=hx;rcases hx with hx | hx
   . exact absurd rfl (S.nocell _ (PySem.mem_of_lookup hx))
   . rw [hx];simp only [da];split
     . exact .inl rfl
     . exact .inr rfl
theorem jr (h:namesOk c sc Nc = true):Nc.Nodup/\∀ i x,i < c.N.length->Nc[i]? = some x->Vis sc x->c.N[i]? = some x/\sc.names.lookup x = some .free:=by
 unfold namesOk at h;rw [aa,dY] at h;refine ⟨of_decide_eq_true h.1,fun i x hi e v=>?_⟩;have z:=h.2 i (by simpa using hi);rw [e] at z;dsimp only at z;rw [cw,aa] at z
 have vb:zI sc x = true:=by
  unfold zI;rcases v with v | v | v<;>rw [v]
 rcases z with z | ⟨z1,z2⟩
 . rw [vb] at z;cases z
 . exact ⟨of_decide_eq_true z1,of_decide_eq_true z2⟩
theorem vz {X:Cx} {c:Ck} {Nc:List Str} {kk:Nat} {tg:Tg} {src:It} {ifs:Eo} {elt:E} {pins:List (av × Obj)} {s:ai} {σ:L2.St} {H:Hp} {Q:VK} (C:Cok X c cx k) (I:Inv X pins σ H s) (n:(!bL elt) = true) (hk:Nc.length = c.N.length+kk) (hge:lG c.N.length tg = true)
 {G:Gh} {F:av->Prop} {δ δ':Loc} {d:D} (ok:Ok X.K G F σ H δ) (ev:evE cx (.comp kk tg src ifs elt) δ = some (d,δ'))
 (q:∀ p ys xs H1 F1 H2 F2,d = .lst ys->Step G F H F1 H1->Step G F1 H1 F2 H2->H1 p = none->G.free p->Ok X.K (G.and p) F2 σ H2 δ'->H2 p = some (.lst xs)->aG X.K H2 F2 ys xs->(np (.comp kk tg src ifs elt) = true->Sim H H2)->Q (.ref p) H2) :
 tLC (Nc.length - X.N.length) (tI X.K cx src) (gTg X.K tg) (tG X.K cx ifs) (tE X.K cx elt) σ H Q:=by
 obtain ⟨ds,δ1,ys,ei,ec,hz,rfl⟩:=Hl ev;have ek:Nc.length - X.N.length = kk:=by rw [C.hN,hk];lia
 rw [ek];refine ⟨G,F,δ,ds,δ1,ok,ei,fun J H1 F1 st1 sm1 ok1 wk=>fun p hp=>?_⟩;have hg:=ok1.free hp;refine xj n (by rw [I.len,C.hN];exact hge) ok1 (wk _) hp ec hz fun σ' H2 F2 xs ok2 eD rl st2 sm2=>?_;refine q p ys xs H1 F1 H2 F2 rfl st1 st2 hp hg ok2 eD rl fun z=>?_;have z':(npI src && npO ifs && np elt) = true:=z;rw [aa,aa] at z';exact (sm1 z'.1.1).trans (sm2 (by rw [z'.1.2,z'.2];rfl))
theorem Eu {X:Cx} {c:Ck} {Nc:List Str} {kk:Nat} {tg:Tg} {src:It} {ifs:Eo} {elt:E} {pins:List (av × Obj)} {s:ai} {σ:L2.St} {H:Hp} {Q:VK} (C:Cok X c cx k) (I:Inv X pins σ H s) (n:(!bL elt) = true) (hk:Nc.length = c.N.length+kk) (hge:lG c.N.length tg = true)
 (h:tE X.K cx (.comp kk tg src ifs elt) σ H Q):tLC (Nc.length - X.N.length) (tI X.K cx src) (gTg X.K tg) (tG X.K cx ifs) (tE X.K cx elt) σ H Q:=by
 obtain ⟨G,F,δ,d,δ',ok,ev,post⟩:=h;refine vz C I n hk hge ok ev fun p ys xs H1 F1 H2 F2 e st1 st2 hp hg ok2 eD rl sm=>?_;subst e
 have st':Step G F1 H1 (fun b=>F2 b/\b≠p) H2:=⟨st2.keep,fun b z=>st2.grow b z.1,fun b o r f e=>by
  obtain ⟨a1,a2⟩:=st2.res b o r f e;exact ⟨⟨a1,fun w=>by rw [w,hp] at e;cases e⟩,a2⟩,st2.tb⟩
 refine post (.ref p) H2 _ (st1.trans st') sm (ok2.leave hg) (fV ?_);unfold Rel;exact ⟨p,xs,rfl,.inl ⟨.inl eD,fun z=>z.2 rfl⟩,aG.less ok2.fd (fun b z=>z.1) rl⟩
theorem Ci (C:Cok X c cx k) (n:(!bL elt) = true) (hk:Nc.length = c.N.length+kk) (hge:lG c.N.length tg = true) (hs:jJ c sc = true) (hn:namesOk c sc Nc = true)
 (htg:∀ cl Ca s H fp,PG (cxC X sc cl Ca Nc s H fp) t (gTg X.K tg)) (hI:PI X t it (tI X.K cx src)) (hG:∀ cl Ca s H fp,PTs (cxC X sc cl Ca Nc s H fp) il (tG X.K cx ifs)) (hE:∀ cl Ca s H fp,PE (cxC X sc cl Ca Nc s H fp) ex (tE X.K cx elt))
 (hset:∀ v,foldedSetIterable it X.env v = pure v):PE X (.ListComp ex [⟨t,it,il,0⟩] sc pos) (tE X.K cx (.comp kk tg src ifs elt)):=by
 obtain ⟨nd,hvis⟩:=jr hn;intro pins s σ H Q I h;refine Dh (Nc:=Nc) C.xe C.calm (mh C hs) (fun i x hi=>by rw [C.hN] at hi ⊢;exact hvis i x hi) (by rw [C.hN,hk];lia) hI htg hG hE hset pins s σ H Q I ?_;exact Eu C I n hk hge h
theorem call_of {X:Cx} {c:Ck} {f:Nat} {es:Es} {n:Str} {p pos:Pos} {xs:List aE} (C:Cok X c cx k) (hA:PA X xs (tEs X.K cx es)) (h:(match c.fns[f]? with
 | some (m,ps)=>decide (m = n) && fA c n && decide (ps.length = vp es) && gc c es xs && gL es && !xs.isEmpty
 | none=>false) = true):PE X (.Call (.Name n p) xs [] pos) (tE X.K cx (.call f es)):=by
 split at h
 . rename_i m ps ef;simp only [aa] at h;obtain ⟨⟨⟨⟨⟨h1,h2⟩,h3⟩,h4⟩,h5⟩,h6⟩:=h;have e:=of_decide_eq_true h1;subst e;obtain ⟨a,fd,hm,hk,hb,fn⟩:=C.fns f _ _ ef;obtain ⟨g1,g2,g3⟩:=C.global h2
   cases xs with
   | nil=>simp at h6
   | cons y ys =>
     obtain ⟨_,_,_,a1,a2⟩:=eH h4;exact Cj h5 fn C.room g1 hm hk hb hA g2 (cK (bX a1) _ _) (jm a2)
 . cases h
theorem KS (C:Cok X c cx k) (hg:fA c (rL f) = true) (ht:tyName f = none) (hA:PA X (y::ys) (tEs X.K cx es)) (h:gc c es (y::ys) = true):PE X (.Call (.Name (rL f) p) (y::ys) [] pos) (tE X.K cx (.blt f es)):=by
 obtain ⟨g1,g2,g3⟩:=C.global hg;obtain ⟨e,es',rfl,h1,h2⟩:=eH h;have he:=cK (bX h1) ys X.env;have hpl:=jm (env:=X.env) (pos:=pos) h2
 cases f with
 | len=>exact jI GS rfl (ky KN g1 (C.blt _ (by decide +kernel)) rfl hA g3 g2 he hpl)
 | toInt=>exact jI pH rfl (jo KO g1 (C.blt _ (by decide +kernel)) rfl hA g3 g2 he hpl)
 | toStr=>exact jI su rfl (jo KJ g1 (C.blt _ (by decide +kernel)) rfl hA g3 g2 he hpl)
 | toTup=>exact jI sr rfl (jo KI g1 (C.blt _ (by decide +kernel)) rfl hA g3 g2 he hpl)
 | toLst=>exact jI nh rfl (jo KL g1 (C.blt _ (by decide +kernel)) rfl hA g3 g2 he hpl)
 | sorted=>exact jI oO rfl (ky (AD C.units) g1 (C.blt _ (by decide +kernel)) rfl hA g3 g2 he hpl)
 | any=>exact jI Hr rfl (ky (KP C.calm) g1 (C.blt _ (by decide +kernel)) rfl hA g3 g2 he hpl)
 | _=>cases ht
end
section
variable {X:Cx} {cx:Cl} {k:Nat}
theorem FnV.at (I:Inv X pins σ H s) (h:FnV H n cs a):PySem.W.FnAt a s.heap:=by
 obtain ⟨L,pm,ctv,c',oc,vs,tk,cells,h1,h2,_⟩:=h;exact ⟨_,_,_,_,(I.hok a _ h2).1⟩
theorem zU (C:Cok X c cx k) (hx:eZ c i x = true) (n:gL es = true) (hA:PA X (y::ys) (tEs X.K cx es)) (he:starEach (y::ys) X.env = (false,eval y X.env)::starEach ys X.env) (hpl:(backTo pos (starEach ys X.env)).any (·.1) = false) :
 PE X (.Call (.Name x p) (y::ys) [] pos) (tE X.K cx (.callv i es)):=by
 obtain ⟨n1,n2,n3,n4⟩:=C.name hx;intro pins s σ H Q I h;obtain ⟨G,F,δ,d,δ',ok,ev,post⟩:=h;simp only [evE,ag,ae] at ev;obtain ⟨⟨ds,δ1⟩,ea,ev⟩:=ev
 cases q:δ[i]? with
 | none=>rw [q] at ev;cases ev
 | some sl =>
   rw [q] at ev
   cases sl with
   | no=>cases ev
   | val _=>cases ev
   | own _=>cases ev
   | fnc m cs =>
     dsimp only at ev;split at ev
     . rename_i hl;rw [aI] at ev;obtain ⟨r,er,e⟩:=ev;cases e
       have er':cx.call m (ds++cs) = some d/\lf d = true:=by
        cases z:cx.call m (ds++cs) with
        | none=>rw [z] at er;cases er
        | some r =>
          rw [z] at er;unfold lfO at er;split at er
          . split at er
            . rename_i e2 h2;cases er;cases e2;exact ⟨rfl,h2⟩
            . cases er
          . cases er
       obtain ⟨a,es',fv⟩:=ok.sl i _ q;refine gq (thn (jK n1 n2 n3 n4 pins s σ H (fun v H1=>v = .ref a/\H1 = H) I ⟨.ref a,es',rfl,rfl⟩) fun u s1 ⟨v,H1,I1,rv,e1,e2⟩=>?_);subst e1;subst e2;obtain rfl:u = iK a:=rv;refine PySem.W.callWith_F (fv.at I1) (thn (hA pos pins s1 σ H1 (fun vs H2=>∃ F2,Step G F H1 F2 H2/\(npS es = true->Sim H1 H2)/\Ok X.K G F2 σ H2 δ'/\aG X.K H2 F2 ds vs) I1 ⟨G,F,δ,ds,δ',ok,ea,fun vs H2 F2 st sm ok2 r2=>⟨F2,st,sm,ok2,r2.rl n⟩⟩) fun us s2 ⟨vs,H2,I2,rvs,F2,st,sm,ok2,rl⟩=>?_) he hpl;have fv2:FnV H2 m cs a:=fv.keep (oV ok.fd st.keep);refine ⟨fv2.at I2,?_⟩;refine Le (lT (C.lam m cs H2 a fv2 X.A X.stack s2 H2 a us vs cs Q C.room I2.env0 rvs fv2 ⟨F2,ds,d,ok2.fd,ok2.tf,ok2.tabs,rl,hl,er'.1,er'.2,fun v H' s3 t3 r3=>?_⟩) fun r s' hq=>?_)
       . exact post v H' F2 (st.trans (ok2.call s3 t3).2) (fun z=>(sm z).trans s3) (ok2.call s3 t3).1 (fV r3)
       . cases r with
         | error e=>exact (Dj pins σ H2 s2 e s' I2 hq)
         | ok fl =>
           cases fl with
           | ret u=>exact I2.after hq
           | next=>exact cB hq
           | brk=>exact cB hq
           | cont=>exact cB hq
     . cases ev
noncomputable def wx (K:PySem.W.Frag) (cx:Cl) (es:Es) (tz:TE):TA:=fun σ H Q=>∃ G F δ ds δ',Ok K G F σ H δ/\fW cx es δ = some (ds,δ') /\
 ∀ vs H' F',Step G F H F' H'->(npS es = true->Sim H H')->Ok K G F' σ H' δ'->mQ K H' F' es ds vs->tz σ H' fun v H2=>Q (vs++[v]) H2
theorem Cf (hz:PE X z tz) (hs:starEach [z] X.env = (false,eval z X.env)::starEach [] X.env):PA X [z] (wx X.K cx .nil tz):=by
 refine fun pos pins s σ H Q I h=>jL hz pX hs pos pins s σ H Q I ?_;obtain ⟨G,F,δ,ds,δ',ok,ev,post⟩:=h;simp only [fW] at ev;cases ev;exact post [] H F Step.refl (fun _=>Sim.refl H) ok ⟨rfl,rfl⟩
theorem zT (pc:(!bL a || npS es) = true) (ha:PE X y (tE X.K cx a)) (hr:PA X (ys++[z]) (wx X.K cx es tz)) (hs:starEach (y::(ys++[z])) X.env = (false,eval y X.env)::starEach (ys++[z]) X.env):PA X (y::ys++[z]) (wx X.K cx (.cons a es) tz):=by
 refine fun pos pins s σ H Q I h=>jL ha hr hs pos pins s σ H Q I ?_;obtain ⟨G,F,δ,ds,δ',ok,ev,post⟩:=h;simp only [fW,ag,ae] at ev;obtain ⟨⟨x,δ1⟩,ea,⟨ds',δ2⟩,eb,e⟩:=ev;cases e;refine ⟨G,F,δ,x,δ1,ok,ea,fun v H1 F1 st1 sm1 ok1 r1=>⟨G,F1,δ1,ds',δ2,ok1,eb,fun vs H2 F2 st2 sm2 ok2 r2=>?_⟩⟩;refine post (v::vs) H2 F2 (st1.trans st2) (fun z=>?_) ok2 ⟨x,ds',v,vs,rfl,rfl,RelM.step ok1.fd st2 (fun z=>sm2 (by rw [z] at pc;simpa using pc)) r1,r2⟩;have z':(np a && npS es) = true:=z;rw [aa] at z';exact (sm1 z'.1).trans (sm2 z'.2)
theorem ni (hz:starEach [z] env = (false,eval z env)::starEach [] env):∀ {es:Es} {ys:List aE},gc c es ys = true->(backTo pos (starEach (ys++[z]) env)).any (·.1) = false
 | .nil,ys,h=>by
   obtain ⟨rfl,_⟩:=fy h
   rw [cQ,hz];rfl
 | .cons e es,ys,h=>by
   obtain ⟨_,_,rfl,hh⟩:=eu h;rw [aa] at hh;rw [fH,cK (bX hh.1)];show (false || (backTo pos (starEach _ env)).any (·.1)) = false;rw [ni hz hh.2];rfl
theorem zV (C:Cok X c cx k) (n:gL es = true) (hx:eZ c i g = true) (fn:lq X.prog X.w X.K X.mg X.base CX0 k a fd ps (zP X.K (cx.call f))) (hg:Gl X x)
 (hm:X.mg x = some (.ref a)) (hk:PySem.W.keepIn X.K (.ref a) = true) (hb:Binds X.K fd ps []) (hA:PA X (y::(ys++[.Name g gp])) (wx X.K cx es (IQ i))) (hd:(x == ("__debug__":Str)) = false) (he:starEach (y::(ys++[.Name g gp])) X.env = (false,eval y X.env)::starEach (ys++[.Name g gp]) X.env) (hpl:(backTo pos (starEach (ys++[.Name g gp]) X.env)).any (·.1) = false) :
 PE X (.Call (.Name x p) (y::(ys++[.Name g gp])) [] pos) (tE X.K cx (.callF f es i)):=by
 refine PE.imp (ym fn C.room hg hm hk hb .nil (Dj) hA hd he hpl) fun σ H Q h=>?_;obtain ⟨G,F,δ,d,δ',ok,ev,post⟩:=h;simp only [evE,ag,ae] at ev;obtain ⟨⟨ds,δ1⟩,ea,ev⟩:=ev;dsimp only at ev
 cases q:δ1[i]? with
 | none=>rw [q] at ev;cases ev
 | some sl =>
   rw [q] at ev
   cases sl with
   | no=>cases ev
   | val _=>cases ev
   | own _=>cases ev
   | fnc m cs =>
     dsimp only at ev;split at ev
     . rw [aI] at ev;obtain ⟨r,er,e⟩:=ev;cases e;refine ⟨G,F,δ,ds,δ',ok,ea,fun vs H1 F1 st1 sm1 ok1 r1=>?_⟩;obtain ⟨b,eb,fv⟩:=ok1.sl i _ q;refine ⟨.ref b,eb,?_⟩;show zP X.K (cx.call f) (vs++[.ref b]++[]) H1 Q E0;rw [bS];exact ⟨F1,ds,vs,m,cs,b,d,ok1.fd,ok1.tf,ok1.tabs,rfl,r1.rl n,fv,er,fun v H2 s2 t2 r2=>post v H2 F1 (st1.trans (ok1.call s2 t2).2) (fun z=>(sm1 z).trans s2) (ok1.call s2 t2).1 (fV r2)⟩
     . cases ev
theorem Ey (C:Cok X c cx k) (hA:PA X xs (tEs X.K cx es)) (h:(eZ c i n && gc c es xs && gL es && !xs.isEmpty) = true):PE X (.Call (.Name n p) xs [] pos) (tE X.K cx (.callv i es)):=by
 simp only [aa] at h;obtain ⟨⟨⟨h1,h2⟩,h3⟩,h4⟩:=h
 cases xs with
 | nil=>simp at h4
 | cons y ys =>
   obtain ⟨_,_,_,a1,a2⟩:=eH h2;exact zU C h1 h3 hA (cK (bX a1) _ _) (jm a2)
theorem EC (C:Cok X c cx k) (hA:gc c es xs.dropLast = true->nD es = true->∀ z tz,PE X z tz->starEach [z] X.env = (false,eval z X.env)::starEach [] X.env->PA X (xs.dropLast++[z]) (wx X.K cx es tz))
 (h:(match c.fns[f]?,xs.getLast? with
   | some (m,ps),some y=>eJ y fun y=>decide (m = n) && fA c n && decide (ps.length = vp es+1) && gc c es xs.dropLast && gL es && eZ c i y && !xs.dropLast.isEmpty
   | _,_=>false) = true):PE X (.Call (.Name n p) xs [] pos) (tE X.K cx (.callF f es i)):=by
 split at h
 . rename_i m ps gx ef eg;obtain ⟨g,gp,rfl,hh⟩:=cy h;simp only [aa] at hh;obtain ⟨⟨⟨⟨⟨⟨h1,h2⟩,h3⟩,h4⟩,h5⟩,h6⟩,h7⟩:=hh;obtain ⟨ys,rfl⟩:=List.getLast?_eq_some_iff.mp eg;rw [zh] at h4 h7 hA;by_cases hf:cx.hf f = true
   . obtain ⟨a,fd,hm,hk,hb,fn⟩:=C.fnF f _ _ ef hf;have e:=of_decide_eq_true h1;subst e;obtain ⟨g1,g2,g3⟩:=C.global h2;obtain ⟨n1,n2,n3,n4⟩:=C.name h6;have A:=hA h4 (gy h5) (.Name g gp) (IQ i) (jK n1 n2 n3 n4) rfl
     cases ys with
     | nil=>simp at h7
     | cons y ys =>
       obtain ⟨_,_,_,a1,a2⟩:=eH h4;exact zV C h5 h6 fn g1 hm hk hb A g2 (cK (bX a1) _ _) (ni rfl a2)
   . intro pins s σ H Q I h;obtain ⟨G,F,δ,d,δ',ok,ev,post⟩:=h;simp only [evE,ag,ae] at ev;obtain ⟨⟨ds,δ1⟩,ea,ev⟩:=ev;dsimp only at ev;split at ev
     . rw [if_neg hf] at ev;cases ev
     . cases ev
 . cases h
end
section
variable {K:PySem.W.Frag} {cx:Cl} {P:aM} {w:bj} {k:Nat}
theorem mq:∀ (us:List Str) (zs:List V),aG K H F (us.map .str) zs->zs = us.map V.str
 | [],zs,h=>by unfold aG at h;exact h
 | u::us,zs,h=>by
   rw [aU] at h;unfold aG at h;obtain ⟨y,ys,rfl,r1,r2⟩:=h;unfold Rel at r1;rw [r1,mq us ys r2,aU]
theorem Ah {G:Gh} {F1:av->Prop} {H1:Hp} {σ:L2.St} {J:L2.It} {ds ys:List D} {δ1 δ2:Loc} {k:Nat} {tg1 tg2:Tg} {src2:It} {ifs:Eo} {elt:E} {p:av} {xs:List Str} {Q:L2.St->Hp->Prop} (n:(!bL elt) = true) (hge1:lG σ.length tg1 = true) (hge2:lG σ.length tg2 = true)
 (ok1:Ok K G F1 σ H1 δ1) (wk:Wk K G F1 H1 J ds) (hp:H1 p = none) (ev:gf (outF cx k tg1 tg2 src2 ifs elt) ds δ1 = some (ys,δ2)) (hx:fJ ys = some xs) (hr:xs.length < 4000)
 (q:∀ σ' H2 F2,Ok K (G.and p) F2 σ H2 δ2->H2 p = some (SH P w p (gI xs))->Step G F1 H1 F2 H2->((npI src2 && (npO ifs && np elt)) = true->Sim H1 H2)->Q σ' H2) :
 tLp J (gTg K tg1) tTr (tIn P w (tI K cx src2) (gTg K tg2) (tG K cx ifs) p (tE K cx elt)) (σ++aN k none) (upd H1 p (SH P w p [])) Q:=by
 have hg:=ok1.free hp;obtain ⟨ok2,st2⟩:=ok1.enterX hp (nM P w p []);have hFs:∀ b,G.R b->(G.and p).R b:=fun b z=>.inl z
 refine tj (P:=fun r F' σc Hc=>∃ δi zs xr ti,(∃ tl:L2.St,σc = σ++tl/\tl.length = k)/\Ok K (G.and p) F' σ Hc δi/\gf (outF cx k tg1 tg2 src2 ifs elt) r δi = some (zs,δ2)/\fJ zs = some xr/\Hc p = some (SH P w p ti)/\xr.foldl jW ti = gI xs/\ti.length+xr.length < 4001/\Step G F1 H1 F' Hc /\
  ((npI src2 && (npO ifs && np elt)) = true->Sim H1 Hc)) wk (fun r F σ H z=>by obtain ⟨_,_,_,_,_,ok,_,_,_,_,_,st,_⟩:=z;exact ⟨st,ok.fd⟩) (F0:=fun b=>F1 b\/b = p) ⟨δ1,ys,xs,[],⟨_,rfl,by simp⟩,ok2,ev,hx,bP,rfl,by simp;lia,st2,fun _=>.of (bV hp _)⟩ ?_ ?_
 . rintro d r F' _ H3 x N ⟨δi,zs,xr,ti,⟨tl,rfl,htl⟩,ok,el,exr,eD,ef,hr',st,sm⟩ rx hN;have hF:F' p:=ok.rf p (.inr rfl);obtain ⟨o,δ5,zs',eo,el',rfl⟩:=qk el;obtain ⟨δa,es,δb,δc,e1,e2,e3,rfl⟩:=Dl eo;obtain ⟨xa,xb,ea,eb,rfl⟩:=pL exr;rw [aj] at hr';have okx:Ok K (G.and p) F' (σ++tl) H3 (δi++aN k .no):=by rw [<- htl];exact ok.ext tl
   refine kL okx rx e1 fun σ2 ok6 htake=>?_;have t2:σ2.take σ.length = σ:=by rw [htake _ hge1,HB];rfl
   have l2:σ2.length = σ.length+k:=by
    have a1:=okx.len;have a2:=ok6.len;have e1:=ny e1;have e2:(σ++tl).length = σ.length+k:=by rw [aj,htl]
    lia
   have dl:δi.length = σ.length:=ok.len;unfold tTr;refine hZ ?_;refine ⟨G.and p,F',δa,es,δb,ok6,e2,fun J' H7 F7 st7 sm7 ok7 wk7=>?_⟩;have eD7:H7 p = some (SH P w p ti):=(st7.res p _ (.inr rfl) hF eD).2;refine DX n hg ok7 (wk7 G) eD7 e3 ea (by lia) fun σ8 H8 F8 l8 tk8 ok8 eD8 st8 sm8=>?_;have t8:σ8.take σ.length = σ:=(tk8 _ hge2).trans t2
   have tail:∃ tl':L2.St,σ8 = σ++tl'/\tl'.length = k:=by
    refine ⟨σ8.drop σ.length,?_,by rw [gK];lia⟩
    conv=>lhs;rw [<- xG σ.length σ8,t8]
   have s78:=(st7.sub hFs).trans st8
   have fl:∀ (xa ti:List Str),(xa.foldl jW ti).length<=ti.length+xa.length:=fun xa=>by
    induction xa with
    | nil=>intro ti;simp
    | cons x xa ih =>
      intro ti;have:=ih (jW ti x);have:=vL ti x;simp only [kK,ak]
      lia
   have fa:=fl xa ti;refine hN F8 _ _ ⟨δc.take δi.length,zs',xb,xa.foldl jW ti,tail,?_,el',eb,eD8,by rw [<- ef,List.foldl_append],by lia,st.trans s78,fun z=>?_⟩
   . have:=ok8.cut δi.length;rw [dl,t8] at this;rw [dl];exact this
   . have z':=z;rw [aa] at z';exact sm8 z'.2 H1 hp ((sm z).trans (sm7 z'.1))
 . rintro F' _ Hc ⟨δi,zs,xr,ti,_,ok,el,exr,eD,ef,hr',st,sm⟩;cases el;have:xr = []:=by simpa [fJ] using exr.symm
   subst this;exact q _ Hc F' ok (by rw [<- ef];exact eD) st sm
theorem Cb {X:Cx} {c:Ck} {sc:dS} {Nc:List Str} {kk:Nat} {tg1 tg2:Tg} {src1 src2:It} {ifs:Eo} {elt:E} {ex t1 it1 t2 it2:aE} {il:List aE} {p pos cp:Pos} (C:Cok X c cx k) (n:(!bL elt) = true) (hk:Nc.length = c.N.length+kk) (hge1:lG c.N.length tg1 = true) (hge2:lG c.N.length tg2 = true) (hs:jJ c sc = true) (hn:namesOk c sc Nc = true)
 (gg:Gl X "sorted") (gm:X.mg "sorted" = none) (gn:("sorted":Str)≠"__name__") (gd:(("sorted":Str) == ("__debug__":Str)) = false)
 (htg1:∀ cl Ca s H fp,PG (cxC X sc cl Ca Nc s H fp) t1 (gTg X.K tg1)) (htg2:∀ cl Ca s H fp,PG (cxC X sc cl Ca Nc s H fp) t2 (gTg X.K tg2)) (hI:PI X t1 it1 (tI X.K cx src1)) (hI2:∀ cl Ca s H fp,PI (cxC X sc cl Ca Nc s H fp) t2 it2 (tI X.K cx src2)) (hG:∀ cl Ca s H fp,PTs (cxC X sc cl Ca Nc s H fp) il (tG X.K cx ifs)) (hE:∀ cl Ca s H fp,PE (cxC X sc cl Ca Nc s H fp) ex (tE X.K cx elt))
 (hset:∀ v,foldedSetIterable it1 X.env v = pure v) (hset2:∀ env v,foldedSetIterable it2 env v = pure v):PE X (.Call (.Name "sorted" p) [.SetComp ex [⟨t1,it1,[],0⟩,⟨t2,it2,il,0⟩] sc cp] [] pos) (tE X.K cx (.sset kk tg1 src1 tg2 src2 ifs elt)):=by
 obtain ⟨nd,hvis⟩:=jr hn;have hC:=Af (pos:=cp) (Nc:=Nc) C.xe C.calm (mh C hs) (fun i x hi=>by rw [C.hN] at hi ⊢;exact hvis i x hi) (by rw [C.hN,hk];lia) hI htg1 hI2 htg2 hG hE hset hset2;have hA:PA X [.SetComp ex [⟨t1,it1,[],0⟩,⟨t2,it2,il,0⟩] sc cp] (xN (tSC X.prog X.w (Nc.length - X.N.length) (tI X.K cx src1) (gTg X.K tg1) (tI X.K cx src2) (gTg X.K tg2) (tG X.K cx ifs) (tE X.K cx elt)) IS):=jL hC pX rfl;intro pins s σ H Q I h;refine ky (ub C.calm C.units) gg gm rfl hA gn gd rfl rfl pins s σ H Q I ?_;obtain ⟨G,F,δ,d,δ',ok,ev,post⟩:=h;obtain ⟨ds,δ1,ys,xs,ei,ee,hx,hl,h64,rfl⟩:=xP ev;have ek:Nc.length - X.N.length = kk:=by rw [C.hN,hk];lia
 rw [ek];refine ⟨G,F,δ,ds,δ1,ok,ei,fun J H1 F1 st1 sm1 ok1 wk=>fun D hp=>?_⟩;have hg:=ok1.free hp;refine Ah n (by rw [I.len,C.hN];exact hge1) (by rw [I.len,C.hN];exact hge2) ok1 (wk _) hp ee hx hl fun σ' H2 F2 ok2 eD st2 sm2=>?_;refine ⟨D,gI xs,rfl,eD,h64,fun p' zs F' hp' rl=>?_⟩
 have st':Step G F1 H1 (fun b=>F2 b/\b≠D) H2:=⟨st2.keep,fun b z=>st2.grow b z.1,fun b o r f e=>by
  obtain ⟨a1,a2⟩:=st2.res b o r f e;exact ⟨⟨a1,fun w=>by rw [w,hp] at e;cases e⟩,a2⟩,st2.tb⟩
 have ok3:=ok2.leave hg;have sm3:=bV hp' (.lst zs);refine post _ _ _ ((st1.trans st').trans (Step.of_same sm3)) (fun z=>?_) (ok3.same' sm3) (fV ?_)
 . have z':(npI src1 && npI src2 && npO ifs && np elt) = true:=z;simp only [aa] at z';exact ((sm1 z'.1.1.1).trans (sm2 (by simp only [aa];exact ⟨z'.1.1.2,z'.1.2,z'.2⟩))).trans (.of sm3)
 . obtain ⟨us,e1,_,_⟩:=fN (gI xs)
   have rl2:aG X.K H2 (fun b=>F2 b/\b≠D) (eO ((gI xs).map .str)) zs:=by
    rw [e1] at rl ⊢;have:zs = us.map V.str:=mq us zs rl;rw [this];exact nA us
   unfold Rel;exact ⟨p',zs,rfl,.inl ⟨.inl bP,rz ok3.fd hp'⟩,aG.step ok3.fd (uG sm3) _ _ rl2⟩
end
section
variable {cx:Cl} {k:Nat}
end
section
variable {cx:Cl} {k:Nat}
theorem kr {c:Ck} {tg:Tg} {ts:List Str} {kk:Nat} (h:ts.length = kk):(js ts c.N++ts).length = c.N.length+kk:=by
 unfold js;rw [aj,ao,h]
theorem mL {c:Ck} {t:It} {x:aE} (h:ckI c t x = true) (env:Env) (v:af):foldedSetIterable x env v = pure v:=by
 cases t with
 | rng e=>obtain ⟨_,_,_,_,rfl,_⟩:=gu h;rfl
 | sq e =>
   have h:(ckE c e x && !bL e) = true:=h;rw [aa] at h;exact Ea (bX h.1) env v
theorem ig {X:Cx} {c:Ck} {f:Blt} {es:Es} {x:aE} (C:Cok X c cx k) (h:ckE c (.blt f es) x = true) (hE:∀ e y,es = .cons e .nil->ckE c e y = true->PE X y (tE X.K cx e)) (hA:∀ xs,gc c es xs = true->nD es = true->PA X xs (tEs X.K cx es)) :
 PE X x (tE X.K cx (.blt f es))/\∀ whole,isTrue x X.env whole = (do let v <- whole;standAt x.pos;holding [v] (truthy v)):=by
 obtain ⟨n,np,xs,p,rfl,hh⟩:=gu h;refine ⟨?_,fun _=>rfl⟩;simp only [aa] at hh;obtain ⟨⟨h1,h2⟩,h3⟩:=hh;have e:=of_decide_eq_true h1;subst e
 cases hT:tyName f with
 | some T =>
   rw [hT] at h3;obtain ⟨y,w,rfl,h4⟩:=nB h3;obtain ⟨t,tp,rfl,h5⟩:=cy h4;simp only [aa] at h5;obtain ⟨⟨⟨a1,a2⟩,a3⟩,a4⟩:=h5;have et:=of_decide_eq_true a1
   cases es with
   | nil=>exact absurd (fy a3).1 (by simp)
   | cons e es' =>
     obtain ⟨_,_,q0,a3'⟩:=eu a3;cases q0;rw [aa] at a3'
     cases es' with
     | cons _ _=>obtain ⟨_,_,q0,_⟩:=eu a3'.2;cases q0
     | nil =>
       have q:=hE e y rfl a3'.1;obtain ⟨t1,t2,t3⟩:=C.global a2
       have tb:t∈jw:=by
        subst et;cases f<;>simp [tyName] at hT<;>subst hT<;>decide +kernel
       have hs:starEach [y,.Name t tp] X.env = [(false,eval y X.env),(false,eval (.Name t tp) X.env)]:=by rw [cK (bX a3'.1)];rfl
       have nm:rL f = ("isinstance":Str):=by cases f<;>simp [tyName] at hT<;>rfl
       rw [nm] at h2 ⊢;obtain ⟨g1,_,_⟩:=C.global h2
       exact IZ hT et g1 (C.blt _ (by decide +kernel)) t1 (C.blt _ tb) q hs
 | none =>
   rw [hT] at h3;simp only [aa] at h3;obtain ⟨⟨b1,b2⟩,b3⟩:=h3
   cases xs with
   | nil=>simp at b1
   | cons y ys=>exact KS C h2 hT (hA _ b2 b3) b2
theorem ixT {X:Cx} {c:Ck} {a b:E} {x:aE} (C:Cok X c cx k) (h:ckE c (.ix a b) x = true) (hA:∀ y,ckE c a y = true->PE X y (tE X.K cx a)) (hB:∀ y,ckE c b y = true->PE X y (tE X.K cx b)) :
 PE X x (tE X.K cx (.ix a b))/\∀ whole,isTrue x X.env whole = (do let v <- whole;standAt x.pos;holding [v] (truthy v)):=by
 obtain ⟨_,_,_,rfl,hq1⟩:=jq h;simp only [aa] at hq1;obtain ⟨⟨⟨h1,h2⟩,h3⟩,h4⟩:=hq1;exact ⟨IY h3 (hA _ h1) (hB _ h2) (Hd (bX h2)),fun _=>rfl⟩
theorem EB {X:Cx} {c:Ck} {f:Nat} {es:Es} {x:aE} (C:Cok X c cx k) (h:ckE c (.call f es) x = true) (hA:∀ xs,gc c es xs = true->nD es = true->PA X xs (tEs X.K cx es)) :
 PE X x (tE X.K cx (.call f es))/\∀ whole,isTrue x X.env whole = (do let v <- whole;standAt x.pos;holding [v] (truthy v)):=by
 obtain ⟨n,np,xs,p,rfl,hh⟩:=gu h;refine ⟨?_,fun _=>rfl⟩;have h':=hh;split at h'
 . simp only [aa] at h';exact call_of C (hA _ h'.1.1.2 (gy h'.1.2)) hh
 . cases h'
theorem noT (h:∀ δ,evT cx e δ = none):PT X x (tT X.K cx e):=fun pins s σ H Q I q=>by
 obtain ⟨G,F,δ,b,δ',ok,ev,post⟩:=q;rw [h] at ev;cases ev
theorem noE {X:Cx} {e:E} {x:aE} (h:∀ δ,evE cx e δ = none):PE X x (tE X.K cx e):=fun pins s σ H Q I q=>by
 obtain ⟨G,F,δ,b,δ',ok,ev,post⟩:=q;rw [h] at ev;cases ev
mutual
theorem dq:∀ (e:E) (X:Cx) (c:Ck) (x:aE),Cok X c cx k->ckE c e x = true->PE X x (tE X.K cx e)
 | .var i,X,c,x,C,h=>by
   obtain ⟨_,_,rfl,hq1⟩:=cy h;replace h:=hq1
   . obtain ⟨n1,n2,n3,n4⟩:=C.name h
     exact FF n1 n2 n3 n4
 | .pk i,X,c,x,C,h=>by
   obtain ⟨_,_,rfl,hq1⟩:=cy h;replace h:=hq1
   . obtain ⟨n1,n2,n3,n4⟩:=C.name h
     exact IX n1 n2 n3 n4
 | .glob g,X,c,x,C,h=>by
   obtain ⟨_,_,rfl,hq1⟩:=cy h;replace h:=hq1
   . rw [aa] at h;have e:=of_decide_eq_true h.1;obtain ⟨g1,g2,g3⟩:=C.global h.2;obtain ⟨d,hd⟩:=C.gsome g _ e;obtain ⟨u,v,hm,r,hr⟩:=C.glob g _ d e hd
     exact Cg g1 hm r (fun d' hd'=>by rw [hd] at hd';cases hd';exact hr) g2
 | .int i,X,c,x,C,h=>by
   obtain ⟨_,_,_,rfl,hq1⟩:=qc h;obtain ⟨_,rfl,hq2⟩:=JW hq1;replace h:=hq2
   . have e:=of_decide_eq_true h;subst e;exact FQ
 | .bl i,X,c,x,C,h=>by
   obtain ⟨_,_,_,rfl,hq1⟩:=qc h;obtain ⟨_,rfl,hq2⟩:=JX hq1;replace h:=hq2
   . have e:=of_decide_eq_true h;subst e;exact Ja
 | .non,X,c,x,C,h=>by
   obtain ⟨_,_,_,rfl,hq1⟩:=qc h;replace h:=hq1;have e:=DR h;subst e
   exact FL
 | .str i,X,c,x,C,h=>by
   obtain ⟨_,_,_,rfl,hq1⟩:=qc h;obtain ⟨_,rfl,hq2⟩:=JT hq1;replace h:=hq2
   . have e:=of_decide_eq_true h;subst e;exact FH
 | .bin op a b,X,c,x,C,h=>by
   obtain ⟨_,_,_,_,rfl,hq1⟩:=va h;replace h:=hq1
   . simp only [aa] at h;obtain ⟨⟨⟨h1,h2⟩,h3⟩,h4⟩:=h
     exact FT h1 h4 (dq a X c _ C h2) (dq b X c _ C h3)
 | .cmp op a b,X,c,x,C,h=>by
   obtain ⟨_,_,_,_,rfl,hq1⟩:=qb h;obtain ⟨_,rfl,hq2⟩:=fx hq1;obtain ⟨_,rfl,hq3⟩:=fx hq2;replace h:=hq3
   . simp only [aa] at h;obtain ⟨⟨⟨h1,h2⟩,h3⟩,h4⟩:=h
     exact FR C.units h1 h4 (dq a X c _ C h2) (dq b X c _ C h3) (rG (bX h3) _)
 | .and a b,X,c,x,C,h=>by
   obtain ⟨o,_,p,rfl,hq1⟩:=mw h;obtain ⟨y,r,rfl,hq2⟩:=eu hq1;obtain ⟨z,r2,rfl,hq3⟩:=eu hq2;simp only [aa] at hq3;obtain ⟨⟨⟨⟨h0,h1⟩,h2⟩,h3⟩,h4⟩:=hq3;cases o<;>first | (cases h0;done) | skip
   cases r2 with
   | nil=>exact snd_and h3 h4 (dq a X c _ C h1) (Df (dq b X c _ C h2))
   | cons w r=>exact snd_and h3 h4 (dq a X c _ C h1) (dq b X c _ C h2)
 | .or a b,X,c,x,C,h=>by
   obtain ⟨o,_,p,rfl,hq1⟩:=mw h;obtain ⟨y,r,rfl,hq2⟩:=eu hq1;obtain ⟨z,r2,rfl,hq3⟩:=eu hq2;simp only [aa] at hq3;obtain ⟨⟨⟨⟨h0,h1⟩,h2⟩,h3⟩,h4⟩:=hq3;cases o<;>first | (cases h0;done) | skip
   cases r2 with
   | nil=>exact Ce h3 h4 (dq a X c _ C h1) (Df (dq b X c _ C h2))
   | cons w r=>exact Ce h3 h4 (dq a X c _ C h1) (dq b X c _ C h2)
 | .not a,X,c,x,C,h=>by
   obtain ⟨o,_,_,rfl,hh⟩:=oT h;simp only [aa] at hh;obtain rfl:=vj hh.1.1
   exact FK hh.2 (dq a X c _ C hh.1.2)
 | .neg a,X,c,x,C,h=>by
   obtain ⟨o,_,_,rfl,hh⟩:=oT h;simp only [aa] at hh;obtain rfl:=DS hh.1.1
   exact FN hh.2 (dq a X c _ C hh.1.2)
 | .ite t a b,X,c,x,C,h=>by
   obtain ⟨_,_,_,_,rfl,hq1⟩:=yp h;replace h:=hq1
   . simp only [aa] at h;obtain ⟨⟨⟨⟨h1,h2⟩,h3⟩,h4⟩,h5⟩:=h
     exact FP h4 h5 (oA t X c _ C h1) (dq a X c _ C h2) (dq b X c _ C h3)
 | .tup es,X,c,x,C,h=>by
   obtain ⟨_,_,_,rfl,hq1⟩:=iE h;replace h:=hq1
   . rw [aa] at h
     exact FG h.2 (fR es X c _ C h.1 (gy h.2))
 | .lst es,X,c,x,C,h=>by
   obtain ⟨_,_,rfl,hq1⟩:=qa h;replace h:=hq1
   . rw [aa] at h
     exact FO h.2 (fR es X c _ C h.1 (gy h.2))
 | .ix a b,X,c,x,C,h=>(ixT C h (fun y q=>dq a X c y C q) fun y q=>dq b X c y C q).1
 | .rvt a s,X,c,x,C,h=>by
   obtain ⟨_,_,_,rfl,hh⟩:=jq h;obtain ⟨_,_,_,_,rfl,h9⟩:=sP hh;simp only [aa] at h9;obtain ⟨h1,h2,h3,h4,h5⟩:=h9;obtain rfl:=cO.mp h1;obtain rfl:=cO.mp h2
   exact FI h5 (dq a X c _ C h3) (Cw s X c _ C h4)
 | .sl a lo hi,X,c,x,C,h=>by
   obtain ⟨_,_,_,rfl,hh⟩:=jq h;obtain ⟨_,_,o,_,rfl,h9⟩:=sP hh;simp only [aa] at h9;obtain ⟨h0,⟨⟨h1,h2⟩,h3⟩,h4⟩:=h9;obtain rfl:=cO.mp h0
   exact IW (by simpa using h4) (dq a X c _ C h1) (Cw lo X c _ C h2) (Cw hi X c _ C h3)
 | .call f es,X,c,x,C,h=>(EB C h fun xs h1 h2=>fR es X c xs C h1 h2).1
 | .blt f .nil,X,c,x,C,h=>(ig C h (fun e y z=>by cases z) fun xs h1 h2=>fR .nil X c xs C h1 h2).1
 | .blt f (.cons e .nil),X,c,x,C,h=>(ig C h (fun e' y z h1=>by cases z;exact dq e X c y C h1) fun xs h1 h2=>fR (.cons e .nil) X c xs C h1 h2).1
 | .blt f (.cons e (.cons e2 es)),X,c,x,C,h=>(ig C h (fun e' y z=>by cases z) fun xs h1 h2=>fR (.cons e (.cons e2 es)) X c xs C h1 h2).1
 | .callv i es,X,c,x,C,h=>by
   obtain ⟨_,_,_,_,rfl,hq1⟩:=gu h;replace h:=hq1
   . exact Ey C (fR es X c _ C (by simp only [aa] at h;exact h.1.1.2) (by simp only [aa] at h;exact gy h.1.2)) h
 | .callF f es i,X,c,x,C,h=>by
   obtain ⟨_,_,_,_,rfl,hq1⟩:=gu h;replace h:=hq1
   . exact EC C (fun h1 h2 z tz hz hs=>wB es X c _ z tz C h1 h2 hz hs) h
 | .bad,X,c,x,C,h=>noE fun δ=>rfl
 | .isdig i,X,c,x,C,h=>by
   obtain ⟨_,_,_,_,_,rfl,hln,hh⟩:=sQ h;obtain ⟨_,_,rfl,h2⟩:=cy hh;obtain ⟨rfl,h3⟩:=fy h2;rw [aa] at h3;have e:=of_decide_eq_true h3.1;subst e;obtain ⟨n1,n2,n3,n4⟩:=C.name h3.2
   exact zS n1 n2 n3 n4 hln
 | .comp kk tg src ifs elt,X,c,x,C,h=>by
   obtain ⟨_,_,_,_,rfl,hq1⟩:=oU h;obtain ⟨_,rfl,hq2⟩:=fx hq1;obtain ⟨_,_,_,rfl,hq3⟩:=sR hq2;replace h:=hq3
   . split at h
     . rename_i ts ht;simp only [aa] at h;obtain ⟨⟨⟨⟨⟨⟨⟨⟨h1,h2⟩,h3⟩,h4⟩,h5⟩,h6⟩,h7⟩,h8⟩,h9⟩:=h;have nd:=(jr h4).1
       exact Ci C h9 (kr (tg:=tg) (of_decide_eq_true h1)) h2 h3 h4 (fun cl Ca s H fp=>lH (dR C h3 nd cl Ca s H fp) h5) (Cz src X c _ _ C h6)
        (fun cl Ca s H fp=>Jb ifs _ _ _ (dR C h3 nd cl Ca s H fp) h7) (fun cl Ca s H fp=>dq elt _ _ _ (dR C h3 nd cl Ca s H fp) h8) (fun v=>mL h6 _ v)
     . cases h
 | .sset kk tg1 src1 tg2 src2 ifs elt,X,c,x,C,h=>by
   obtain ⟨_,_,_,_,rfl,hq1⟩:=gu h;obtain ⟨_,rfl,hq2⟩:=fx hq1;obtain ⟨_,_,_,_,rfl,hq3⟩:=GI hq2;obtain ⟨_,_,rfl,hq4⟩:=nB hq3;obtain ⟨_,_,_,rfl,hq5⟩:=sR hq4;obtain ⟨_,_,_,rfl,hq6⟩:=sR hq5;obtain ⟨rfl,hq7⟩:=fy hq6;replace h:=hq7
   . rw [aa,aa] at h;obtain ⟨⟨h1,h2⟩,h⟩:=h;have e1:=of_decide_eq_true h1;subst e1;obtain ⟨g1,g2,g3⟩:=C.global h2;split at h
     . rename_i n1 n2 q1 q2;simp only [aa] at h;obtain ⟨⟨⟨⟨⟨⟨⟨⟨⟨⟨⟨h3,h4⟩,h5⟩,h6⟩,h7⟩,h8⟩,h9⟩,h10⟩,h11⟩,h12⟩,h13⟩,h14⟩:=h;have nd:=(jr h7).1
       exact Cb C h14 (kr (tg:=tg1) (of_decide_eq_true h3)) h4 h5 h6 h7 g1 (C.blt _ (by decide +kernel)) g3 g2 (fun cl Ca s H fp=>lH (dR C h6 nd cl Ca s H fp) h8) (fun cl Ca s H fp=>lH (dR C h6 nd cl Ca s H fp) h9) (Cz src1 X c _ _ C h10)
        (fun cl Ca s H fp=>Cz src2 _ _ _ _ (dR C h6 nd cl Ca s H fp) h11) (fun cl Ca s H fp=>Jb ifs _ _ _ (dR C h6 nd cl Ca s H fp) h12) (fun cl Ca s H fp=>dq elt _ _ _ (dR C h6 nd cl Ca s H fp) h13) (fun v=>mL h10 _ v) (fun env v=>mL h11 env v)
     . cases h
theorem oA:∀ (e:E) (X:Cx) (c:Ck) (x:aE),Cok X c cx k->ckE c e x = true->PT X x (tT X.K cx e)
 | .var i,X,c,x,C,h=>by
   obtain ⟨_,_,rfl,hq1⟩:=cy h;replace h:=hq1
   . obtain ⟨n1,n2,n3,n4⟩:=C.name h
     exact uI (.inl rfl) n1 n2 n3 n4
 | .pk i,X,c,x,C,h=>by
   obtain ⟨_,_,rfl,hq1⟩:=cy h;replace h:=hq1
   . obtain ⟨n1,n2,n3,n4⟩:=C.name h
     exact uI (.inr rfl) n1 n2 n3 n4
 | .cmp op a b,X,c,x,C,h=>by
   obtain ⟨_,_,_,_,rfl,hq1⟩:=qb h;obtain ⟨_,rfl,hq2⟩:=fx hq1;obtain ⟨_,rfl,hq3⟩:=fx hq2;replace h:=hq3
   . simp only [aa] at h;obtain ⟨⟨⟨h1,h2⟩,h3⟩,h4⟩:=h
     exact Co C.units h1 h4 (dq a X c _ C h2) (dq b X c _ C h3) (rG (bX h3) _)
 | .and a b,X,c,x,C,h=>by
   obtain ⟨o,_,p,rfl,hq1⟩:=mw h;obtain ⟨y,r,rfl,hq2⟩:=eu hq1;obtain ⟨z,r2,rfl,hq3⟩:=eu hq2;simp only [aa] at hq3;obtain ⟨⟨⟨⟨h0,h1⟩,h2⟩,h3⟩,h4⟩:=hq3;cases o<;>first | (cases h0;done) | skip
   cases r2 with
   | nil=>exact uJ (oA a X c _ C h1) (Gm (oA b X c _ C h2))
   | cons w r=>exact uJ (oA a X c _ C h1) (PT.pw (oA b X c _ C h2))
 | .or a b,X,c,x,C,h=>by
   obtain ⟨o,_,p,rfl,hq1⟩:=mw h;obtain ⟨y,r,rfl,hq2⟩:=eu hq1;obtain ⟨z,r2,rfl,hq3⟩:=eu hq2;simp only [aa] at hq3;obtain ⟨⟨⟨⟨h0,h1⟩,h2⟩,h3⟩,h4⟩:=hq3;cases o<;>first | (cases h0;done) | skip
   cases r2 with
   | nil=>exact xS (oA a X c _ C h1) (Jp (oA b X c _ C h2))
   | cons w r=>exact xS (oA a X c _ C h1) (PT.pw (oA b X c _ C h2))
 | .not a,X,c,x,C,h=>by
   obtain ⟨o,_,_,rfl,hh⟩:=oT h;simp only [aa] at hh;obtain rfl:=vj hh.1.1
   exact Cn (oA a X c _ C hh.1.2)
 | .call f es,X,c,x,C,h=>oP (es:=es) (f:=cx.call f) (EB C h fun xs h1 h2=>fR es X c xs C h1 h2).1 (EB C h fun xs h1 h2=>fR es X c xs C h1 h2).2 rfl (fun δ=>rfl) fun δ=>by rw [evT]
 | .blt f .nil,X,c,x,C,h=>oP (es:=.nil) (f:=kF f) (ig C h (fun e y z=>by cases z) fun xs h1 h2=>fR .nil X c xs C h1 h2).1 (ig C h (fun e y z=>by cases z) fun xs h1 h2=>fR .nil X c xs C h1 h2).2 rfl (fun δ=>rfl) fun δ=>by rw [evT]
 | .blt f (.cons e .nil),X,c,x,C,h=>oP (es:=.cons e .nil) (f:=kF f) (ig C h (fun e' y z h1=>by cases z;exact dq e X c y C h1) fun xs h1 h2=>fR (.cons e .nil) X c xs C h1 h2).1 (ig C h (fun e' y z h1=>by cases z;exact dq e X c y C h1) fun xs h1 h2=>fR (.cons e .nil) X c xs C h1 h2).2 rfl (fun δ=>rfl) fun δ=>by rw [evT]
 | .blt f (.cons e (.cons e2 es)),X,c,x,C,h=>oP (es:=.cons e (.cons e2 es)) (f:=kF f) (ig C h (fun e' y z=>by cases z) fun xs h1 h2=>fR (.cons e (.cons e2 es)) X c xs C h1 h2).1 (ig C h (fun e' y z=>by cases z) fun xs h1 h2=>fR (.cons e (.cons e2 es)) X c xs C h1 h2).2 rfl (fun δ=>rfl) fun δ=>by rw [evT]
 | .callv _ _,X,c,x,C,h=>noT fun δ=>rfl
 | .callF _ _ _,X,c,x,C,h=>noT fun δ=>rfl
 | .glob _,X,c,x,C,h=>noT fun δ=>rfl
 | .int _,X,c,x,C,h=>noT fun δ=>rfl
 | .bl _,X,c,x,C,h=>noT fun δ=>rfl
 | .non,X,c,x,C,h=>noT fun δ=>rfl
 | .str _,X,c,x,C,h=>noT fun δ=>rfl
 | .neg _,X,c,x,C,h=>noT fun δ=>rfl
 | .bin ..,X,c,x,C,h=>noT fun δ=>rfl
 | .ite ..,X,c,x,C,h=>noT fun δ=>rfl
 | .tup _,X,c,x,C,h=>noT fun δ=>rfl
 | .lst _,X,c,x,C,h=>noT fun δ=>rfl
 | .ix a b,X,c,x,C,h=>Cm (ixT C h (fun y q=>dq a X c y C q) fun y q=>dq b X c y C q).1 (ixT C h (fun y q=>dq a X c y C q) fun y q=>dq b X c y C q).2 fun δ k δ' q=>by
   simp only [evT,ag,ae] at q;obtain ⟨⟨u,δ1⟩,e1,⟨v,δ2⟩,e2,d,e3,t,e4,e5⟩:=q;cases e5
   exact ⟨d,by simp only [evE,e1,e2,e3,ag,cC];rfl,e4⟩
 | .sl ..,X,c,x,C,h=>noT fun δ=>rfl
 | .rvt ..,X,c,x,C,h=>noT fun δ=>rfl
 | .isdig _,X,c,x,C,h=>noT fun δ=>rfl
 | .bad,X,c,x,C,h=>noT fun δ=>rfl
 | .sset ..,X,c,x,C,h=>noT fun δ=>rfl
 | .comp ..,X,c,x,C,h=>noT fun δ=>rfl
theorem fR:∀ (es:Es) (X:Cx) (c:Ck) (xs:List aE),Cok X c cx k->gc c es xs = true->nD es = true->PA X xs (tEs X.K cx es)
 | .nil,X,c,xs,C,h,_=>by
   obtain ⟨rfl,hq1⟩:=fy h;replace h:=hq1
   . exact sC
 | .cons e es,X,c,xs,C,h,ho=>by
   obtain ⟨_,_,rfl,hq1⟩:=eu h;replace h:=hq1
   . rw [aa] at h;have ho':((!bL e || npS es) && nD es) = true:=ho;rw [aa] at ho';exact pN ho'.1 (dq e X c _ C h.1) (fR es X c _ C h.2 ho'.2) (cK (bX h.1) _ _)
theorem wB:∀ (es:Es) (X:Cx) (c:Ck) (xs:List aE) (z:aE) (tz:TE),Cok X c cx k->gc c es xs = true->nD es = true->PE X z tz->starEach [z] X.env = (false,eval z X.env)::starEach [] X.env->PA X (xs++[z]) (wx X.K cx es tz)
 | .nil,X,c,xs,z,tz,C,h,_,hz,hs=>by
   obtain ⟨rfl,hq1⟩:=fy h;replace h:=hq1
   . exact Cf hz hs
 | .cons e es,X,c,xs,z,tz,C,h,ho,hz,hs=>by
   obtain ⟨_,_,rfl,hq1⟩:=eu h;replace h:=hq1
   . rw [aa] at h;have ho':((!bL e || npS es) && nD es) = true:=ho;rw [aa] at ho';exact zT ho'.1 (dq e X c _ C h.1) (wB es X c _ z tz C h.2 ho'.2 hz hs) (cK (bX h.1) _ _)
theorem Cw:∀ (o:Eo) (X:Cx) (c:Ck) (l:Option aE),Cok X c cx k->ckO c o l = true->PO X l (tO X.K cx o)
 | .no,X,c,l,C,h=>by
   obtain rfl:=cO.mp h
   exact HF (fun e z=>by cases z) fun _=>rfl
 | .yes e,X,c,l,C,h=>by
   obtain ⟨_,rfl,hq1⟩:=Ds h;replace h:=hq1
   . rw [aa] at h;have q:=dq e X c _ C h.1;exact HF (fun e' z=>by cases z;exact ⟨_,rfl,h.2,q⟩) fun z=>by cases z
theorem Jb:∀ (o:Eo) (X:Cx) (c:Ck) (l:List aE),Cok X c cx k->ckG c o l = true->PTs X l (tG X.K cx o)
 | .no,X,c,l,C,h=>by
   obtain ⟨rfl,hq1⟩:=fy h;replace h:=hq1
   . intro pins s σ H Q I q;obtain ⟨G,F,δ,b,δ',ok,ev,post⟩:=q;simp only [evG] at ev;cases ev
     exact yg pins s σ H Q I (post H F Step.refl (fun _=>Sim.refl H) ok)
 | .yes e,X,c,l,C,h=>by
   obtain ⟨_,rfl,hq1⟩:=fx h;replace h:=hq1
   . have q:=Gn (oA e X c _ C h);intro pins s σ H Q I z;obtain ⟨G,F,δ,b,δ',ok,ev,post⟩:=z;simp only [evG] at ev;exact q pins s σ H Q I ⟨G,F,δ,b,δ',ok,ev,post⟩
theorem Cz:∀ (t:It) (X:Cx) (c:Ck) (x tg:aE),Cok X c cx k->ckI c t x = true->PI X tg x (tI X.K cx t)
 | .rng e,X,c,x,tg,C,h=>by
   obtain ⟨_,_,_,_,rfl,hq1⟩:=gu h;obtain ⟨_,rfl,hq2⟩:=fx hq1;replace h:=hq2
   . simp only [aa] at h;obtain ⟨⟨⟨h1,h2⟩,h3⟩,h4⟩:=h;have z:=of_decide_eq_true h1;subst z
     exact FJ h4 (C.global h2).1 (C.blt _ (by decide +kernel)) (dq e X c _ C h3) (cK (bX h3) _ _)
 | .sq e,X,c,x,tg,C,h=>by
   have h:(ckE c e x && !bL e) = true:=h;rw [aa] at h;exact IV h.2 (dq e X c x C h.1)
end
end
noncomputable def yZ (K:PySem.W.Frag) (G:Gh) (F:av->Prop) (H:Hp) (o:Out) (E:Ends):Prop:=match o with
 | .nx δ'=>∀ σ' H' F',Step G F H F' H'->Ok K G F' σ' H' δ'->E.nx σ' H'
 | .rt d δ'=>∀ v σ' H' F',Step G F H F' H'->Ok K G F' σ' H' δ'->Rel K H' F' d v->E.rt v H'
 | .ro d δ'=>∀ a u σ' H' F',Step G F H F' H'->Ok K G F' σ' H' δ'->F' a->G.free a->H' a = some u->gX K H' F' d u->E.rt (.ref a) H'
noncomputable def tS (K:PySem.W.Frag) (ev:Loc->Option Out):TS:=fun E σ H=>∃ G F δ o,Ok K G F σ H δ/\ev δ = some o/\yZ K G F H o E
theorem yZ.step {K:PySem.W.Frag} {G:Gh} {F F1:av->Prop} {H H1:Hp} {o:Out} {E:Ends} (st:Step G F H F1 H1) (h:yZ K G F H o E):yZ K G F1 H1 o E:=by
 cases o with
 | nx δ=>exact fun σ' H' F' s k=>h σ' H' F' (st.trans s) k
 | rt d δ=>exact fun v σ' H' F' s k r=>h v σ' H' F' (st.trans s) k r
 | ro ds δ=>exact fun a xs σ' H' F' s k=>h a xs σ' H' F' (st.trans s) k
theorem BX {env:Env} {x z:Str} {px pz pt pt2:Pos} {kt k2} {a b:aE} (hB:env.blockKind = .function) (hx:env.scope.names.lookup x = some .local) (hz:env.scope.names.lookup z = some .local) (hn:x≠z) (hl:px.line = pz.line) (ha:fb a = true) (hb:fb b = true) (hf:(foldedForSure 8 a && foldedForSure 8 b) = false) (hc:(constantsAlone 8 a && constantsAlone 8 b) = false) :
 swappedStores [.Tuple [.Name x px,.Name z pz] kt pt] (.Tuple [a,b] k2 pt2) env = pure (some [x,z]):=by
 have sa:∀ a:aE,fb a = true->(match a with | .Starred .. => true | _=>false) = false:=fun a h=>by
  cases a<;>first | rfl | (exact absurd h aq)
 have k1:env.kindOf x = some .local:=hx;have k2:env.kindOf z = some .local:=hz;have e1:((env.blockKind != .function):Bool) = false:=by rw [hB];rfl
 have s1:=sa a ha;have s2:=sa b hb;have l1:(pz.line == px.line) = true:=by rw [hl];exact beq_self_eq_true _
 have n1:(z == x) = false:=by rw [beq_eq_false_iff_ne];exact hn.symm
 have d1:([x,z].eraseDups.length != [x,z].length) = false:=by
  rw [md];simp [n1,md]
 unfold swappedStores;simp only [ak,ax,jA,List.any_nil,e1,s1,s2,List.head?_cons,da,AV,cn,mV,k1,k2,Expr.pos,l1,beq_self_eq_true,jF,ite_true,d1,fU,oj,jE,hf,hc,ur,Bool.or_self,iM,jD,bne_self_eq_false,↓reduceIte,aZ,pure_bind];refine (if_neg ?_).trans (if_neg ?_)
 . exact ne_true_of_eq_false (lE.mpr ⟨s1,s2⟩)
 . rw [Bool.false_or];exact ne_true_of_eq_false d1
theorem zM {env:Env} {c:Ck} {t y:aE} (hS:env.scope = c.sc) (h:Mm c t = true):swappedStores [t] y env = pure none:=by
 obtain ⟨_,_,_,rfl,h1⟩:=iE h;obtain ⟨_,_,rfl,h2⟩:=nB h1;obtain ⟨x,px,rfl,h3⟩:=mv h2;obtain ⟨z,pz,rfl,h4⟩:=mv h3;have hx:(env.kindOf x == some .local) = false:=beq_eq_false_iff_ne.mpr (by have:=of_decide_eq_true h4;rw [<- hS] at this;exact this);cases y<;>first | rfl | skip
 unfold swappedStores;simp only [ak,ax,cn,mV,hx,rX,aZ,ite_false,pure_bind];by_cases q:(env.kindOf z == some .local && pz.line == px.line) = true<;>simp [q,Expr.pos,md]
section
variable {X:Cx} {c:Ck} {cx:Cl} {k:Nat}
theorem PS.imp {s:cY} {t t':TS} (h:PS X s t) (w:∀ E σ H,t' E σ H->t E σ H):PS X s t':=fun pins s σ H E I q=>h pins s σ H E I (w E σ H q)
theorem PSs.imp {s:List cY} {t t':TS} (h:PSs X s t) (w:∀ E σ H,t' E σ H->t E σ H):PSs X s t':=fun pins s σ H E I q=>h pins s σ H E I (w E σ H q)
theorem uK:PSs X [] (tS X.K (dH cx .nil)):=PSs.imp Gq fun E σ H zz=>by
 obtain ⟨G,F,δ,o,ok,ev,post⟩:=zz;simp only [dH] at ev;cases ev;exact post σ H F Step.refl ok
theorem qY {s:S} {ss:Ss} {y:cY} {ys:List cY} (h1:PS X y (tS X.K (evS cx s))) (h2:PSs X ys (tS X.K (dH cx ss))):PSs X (y::ys) (tS X.K (dH cx (.cons s ss))):=PSs.imp (CU h1 h2) fun E σ H zz=>by
 obtain ⟨G,F,δ,o,ok,ev,post⟩:=zz;simp only [dH] at ev
 cases e:evS cx s δ with
 | none=>rw [e] at ev;cases ev
 | some o1 =>
   rw [e] at ev
   cases o1 with
   | nx δ1=>exact ⟨G,F,δ,.nx δ1,ok,e,fun σ' H' F' st ok'=>⟨G,F',δ1,o,ok',ev,post.step st⟩⟩
   | rt d δ1=>cases ev;exact ⟨G,F,δ,_,ok,e,post⟩
   | ro d δ1=>cases ev;exact ⟨G,F,δ,_,ok,e,post⟩
theorem EG {tg:Tg} {e:E} {δ:Loc} {o:Out} (ev:evS cx (.asg tg e) δ = some o):∃ d δ1 δ2,evE cx e δ = some (d,δ1)/\dv δ1 tg d = some δ2/\o = .nx δ2:=by
 simp only [evS,ag,ae] at ev;obtain ⟨⟨d,δ1⟩,e1,δ2,e2,e3⟩:=ev;cases e3;exact ⟨d,δ1,δ2,e1,e2,rfl⟩
theorem KW {tg:Tg} {e:E} (n:(!bL e) = true) {E:Ends} {σ:L2.St} {H:Hp} (h:tS X.K (evS cx (.asg tg e)) E σ H):Fy (tE X.K cx e) (gTg X.K tg) E σ H:=by
 obtain ⟨G,F,δ,o,ok,ev,post⟩:=h;obtain ⟨d,δ1,δ2,e1,e2,rfl⟩:=EG ev;exact ⟨G,F,δ,d,δ1,ok,e1,fun v H1 F1 st sm ok1 r=>kL ok1 (en n r) e2 fun σ' ok2 _=>post σ' H1 F1 st ok2⟩
theorem uM (C:Cok X c cx k) (hm:(isNm t || !GZ y) = true\/swappedStores [t] y X.env = pure none) (h:nK c tg t = true) (hy:ckE c e y = true) (n:(!bL e) = true) (hs:swapsWithSole [t] y pos.line X.env = pure false) (he:PE X y (tE X.K cx e)):PS X (.Assign [t] y pos) (tS X.K (evS cx (.asg tg e))):=by
 have hh:=bX hy
 have hw:swappedStores [t] y X.env = pure none:=by
  refine hm.elim (fun hm=>?_) id;rcases pI h with ⟨_,_,rfl⟩ | ⟨_,_,_,rfl⟩
  . cases y<;>first | rfl | (exact absurd hh aq)
  . cases y<;>first | rfl | (exact absurd hm aq) | (exact absurd hh aq)
 have h1:(assignEach [t] X.env).map (·.2) = [assign t X.env]:=by
  rcases pI h with ⟨_,_,rfl⟩ | ⟨_,_,_,rfl⟩<;>rfl
 exact PS.imp (CY he (lH C h) hs hw h1) fun E σ H h=>KW n h
theorem IM {α β:Type} {i j:α} {ds:List β} (h:[i,j].length = ds.length):∃ a b,ds = [a,b]:=by
 cases ds with
 | nil=>cases h
 | cons a ds =>
   cases ds with
   | nil=>cases h
   | cons b ds =>
     cases ds with
     | nil=>exact ⟨a,b,rfl⟩
     | cons c ds=>cases h
theorem Cq (C:Cok X c cx k) (hS:X.env.scope = c.sc) (hB:X.env.blockKind = .function) {i j:Nat} {es:Es} {t y:aE} {pos:Pos} (h:Mn c i j es t y = true) (hA:∀ a b,gc c es [a,b] = true->gL es = true->PA X [a,b] (tEs X.K cx es)):PS X (.Assign [t] y pos) (tS X.K (evS cx (.asg (.tp [i,j]) (.tup es)))):=by
 obtain ⟨_,_,_,rfl,h1⟩:=iE h;obtain ⟨_,_,rfl,h2⟩:=nB h1;obtain ⟨x,px,rfl,h3⟩:=mv h2;obtain ⟨z,pz,rfl,h4⟩:=mv h3;obtain ⟨_,_,_,rfl,h5⟩:=iE h4;obtain ⟨a,b,rfl,h6⟩:=nB h5;clear h h1 h2 h3 h4 h5;have h:=h6;clear h6;simp only [aa,decide_eq_true_eq,EV] at h;obtain ⟨⟨⟨⟨⟨⟨⟨⟨⟨h1,h2⟩,h3⟩,h4⟩,h5⟩,h6⟩,h7⟩,h8⟩,h9⟩,h10⟩:=h;rw [<- C.hN] at h1 h2;rw [<- hS] at h3 h4;obtain ⟨_,_,_,c1,c2⟩:=eH h7;obtain ⟨_,_,_,c3,_⟩:=eH c2;refine PS.imp (Ju C.calm C.nd' h1 h2 (fun w=>h5 ?_) h3 h4 (hA a b h7 h8) (BX hB h3 h4 h5 h6 (bX c1) (bX c3) h9 h10)) fun E σ H ⟨G,F,δ,o,ok,ev,post⟩=>?_
 . rw [w] at h1;exact bt (h1.symm.trans h2)
 obtain ⟨d,δ1,δ2,e1,e2,rfl⟩:=EG ev;simp only [evE,ag,ae] at e1;obtain ⟨⟨ds,δ3⟩,ea,e3⟩:=e1;split at e3
 . cases e3;unfold dv at e2;dsimp only at e2;split at e2
   . rename_i hh;cases e2;refine ⟨G,F,δ,ds,_,ok,ea,fun vs H1 F1 st sm ok1 r=>?_⟩;have r:=r.rl h8;obtain ⟨d1,d2,rfl⟩:=IM hh.1;have q:=hh.2;simp only [fU,oj,jE,aa,decide_eq_true_eq] at q;obtain ⟨v1,vs1,rfl,r1,q1⟩:=r;obtain ⟨v2,vs2,rfl,r2,q2⟩:=q1;obtain rfl:vs2 = []:=q2;exact ⟨v1,v2,rfl,post _ H1 F1 st ((ok1.set q.1 r1).set (by rw [bR];exact q.2) r2)⟩
   . cases e2
 . cases e3
noncomputable def tN (K:PySem.W.Frag) (cx:Cl) (e:E):TE:=fun σ H Q=>∃ G F δ ds δ',Ok K G F σ H δ/\evE cx e δ = some (.lst ds,δ') /\
 ∀ p xs H1 F1,Step G F H F1 H1->Ok K G F1 σ H1 δ'->H1 p = none->aG K H1 F1 ds xs->Q (.ref p) (upd H1 p (.lst xs))
theorem Gz {K:PySem.W.Frag} {G:Gh} {F1:av->Prop} {σ:L2.St} {H1:Hp} {δ1:Loc} {i:Nat} {p:av} {ds:List D} {xs:List V} (ok1:Ok K G F1 σ H1 δ1) (hp:H1 p = none) (rl:aG K H1 F1 ds xs) (hi:i < δ1.length) :
 Ok K G (fun b=>F1 b\/b = p) (σ.set i (some (.ref p))) (upd H1 p (.lst xs)) (δ1.set i (.own ds))/\Step G F1 H1 (fun b=>F1 b\/b = p) (upd H1 p (.lst xs)):=by
 obtain ⟨o1,o2⟩:=ok1.enter hp xs;refine ⟨(o1.keep).own hi (.inr rfl) (ok1.free hp) bP (aG.step ok1.fd o2 ds xs rl) fun j s e ho z=>?_,o2⟩;obtain ⟨a,u,d,e1,_,_,e2,_⟩:=ft.ow (ok1.sl j _ e) ho;rw [z] at e1;cases e1;rw [hp] at e2;cases e2
theorem Cr (C:Cok X c cx k) {i:Nat} {e:E} {t:Str} {y:aE} {pos p2:Pos} (h:jM c i t = true) (hy:ckE c e y = true) (nc:(!kB y) = true) (he:PE X y (tN X.K cx e)):PS X (.Assign [.Name t p2] y pos) (tS X.K (evS cx (.new i e))):=by
 obtain ⟨n1,n2,n3⟩:=C.to h;have nc':kB y = false:=by simpa using nc
 refine PS.imp (Js C.nd' n1 n2 he (qi (bX hy) nc' _ _ _) n3) fun E σ H zz=>?_;obtain ⟨G,F,δ,o,ok,ev,post⟩:=zz;simp only [evS,ag,ae] at ev;obtain ⟨⟨d,δ1⟩,e1,ev⟩:=ev
 cases d with
 | lst ds =>
   dsimp only at ev;split at ev
   . cases ev;refine ⟨G,F,δ,ds,δ1,ok,e1,fun p xs H1 F1 st ok1 hp rl=>?_⟩;obtain ⟨o1,o2⟩:=Gz ok1 hp rl ‹_›;exact post _ _ _ (st.trans o2) o1
   . cases ev
 | _=>cases ev
theorem Cy (n:gL es = true) (h:PA X xs (tEs X.K cx es)):PE X (.List xs pos) (tN X.K cx (.lst es)):=by
 refine PE.imp (Dg h) fun σ H Q h=>?_;obtain ⟨G,F,δ,d,δ',ok,ev,post⟩:=h;simp only [evE,ag,ae] at ev;obtain ⟨⟨ds,δ1⟩,ea,ev⟩:=ev;split at ev
 . rename_i hz;cases ev;refine ⟨G,F,δ,ds,δ1,ok,ea,fun vs H1 F1 st1 sm1 ok1 r1=>?_⟩;have r:=r1.rl n;exact ⟨by rw [r.length];exact hz,fun p hp=>post p vs H1 F1 st1 ok1 hp r⟩
 . cases ev
theorem zY (C:Cok X c cx k) {es:Es} {p pos:Pos} {y:aE} {ys:List aE} (hg:fA c (rL .toLst) = true) (hA:PA X (y::ys) (tEs X.K cx es)) (h:gc c es (y::ys) = true):PE X (.Call (.Name (rL .toLst) p) (y::ys) [] pos) (tN X.K cx (.blt .toLst es)):=by
 obtain ⟨g1,g2,g3⟩:=C.global hg;obtain ⟨e,es',rfl,h1,h2⟩:=eH h;have he:=cK (bX h1) ys X.env;have hpl:=jm (env:=X.env) (pos:=pos) h2;refine PE.imp (jo mM g1 (C.blt _ (by decide +kernel)) rfl hA g3 g2 he hpl) fun σ H Q h=>?_;obtain ⟨G,F,δ,ds,δ',ok,ev,post⟩:=h;simp only [evE] at ev;obtain ⟨zs,ea,hd⟩:=yJ ev;refine ⟨G,F,δ,zs,δ',ok,ea,fun vs H1 F1 st1 sm1 ok1 r1=>?_⟩;have r:=r1.bl;change nh zs = some (D.lst ds) at hd;unfold nh at hd;split at hd
 . cases hd;obtain ⟨v,rfl,r9⟩:=b1 r;obtain ⟨a,ws,rfl,h1,h2⟩:=r9.lst;exact ⟨a,ws,rfl,.inl h1.sq,fun l hl=>post l ws H1 F1 st1 ok1 hl h2⟩
 . cases hd;obtain ⟨v,rfl,r9⟩:=b1 r;obtain ⟨a,ws,rfl,h1,h2⟩:=r9.tup;exact ⟨a,ws,rfl,.inr h1,fun l hl=>post l ws H1 F1 st1 ok1 hl h2⟩
 . cases hd
theorem FU {a:E} {lo hi:Eo} {y:aE} {l h:Option aE} {pos p2:Pos} (pc:(!bL a || (npO lo && npO hi)) = true) (ha:PE X y (tE X.K cx a)) (hl:PO X l (tO X.K cx lo)) (hh:PO X h (tO X.K cx hi)):PE X (.Subscript y (.Slice l h none p2) pos) (tN X.K cx (.sl a lo hi)):=by
 refine PE.imp (uV xT ha hl hh) fun σ H Q h=>?_;obtain ⟨G,F,δ,ds,δ',ok,ev,post⟩:=h;simp only [evE,ag,ae] at ev;obtain ⟨⟨x,δ1⟩,ea,⟨l',δ2⟩,eb,⟨h',δ3⟩,ec,d',hd,e⟩:=ev;cases e;dsimp only at eb ec hd post;refine ⟨G,F,δ,x,δ1,ok,ea,fun v H1 F1 st1 sm1 ok1 r1=>⟨G,F1,δ1,l',δ2,ok1,eb,fun H2 F2 st2 sm2 ok2=>⟨G,F2,δ2,h',δ3,ok2,ec,fun H3 F3 st3 sm3 ok3=>?_⟩⟩⟩;have st:=st2.trans st3
 have rb:dD X.K H3 F3 x v:=by
  refine (RelM.step ok1.fd st (fun z=>?_) r1).b;rw [z] at pc;have pc':(npO lo && npO hi) = true:=by simpa using pc
  rw [aa] at pc';exact (sm2 pc'.1).trans (sm3 pc'.2)
 unfold slD at hd;split at hd
 . cases hd;obtain ⟨p,xs,e1,h1,h2⟩:=rb.lst;exact ⟨p,xs,e1,h1.sq,fun q hq=>post q _ H3 F3 (st1.trans st) ok3 hq (h2.cut l' h')⟩
 . split at hd
   . cases hd
   . cases hd
 . split at hd
   . cases hd
   . cases hd
 . cases hd
end
section
variable {X:Cx} {c:Ck} {cx:Cl} {k:Nat}
theorem Cp {e:E} {y:aE} {pos:Pos} (n:(!bL e) = true) (he:PE X y (tE X.K cx e)):PS X (.Return (some y) pos) (tS X.K (evS cx (.ret e))):=PS.imp (Jt he) fun E σ H zz=>by
 obtain ⟨G,F,δ,out,ok,ev,post⟩:=zz;simp only [evS,ag,ae] at ev;obtain ⟨⟨d,δ1⟩,e1,ev⟩:=ev;cases ev;exact ⟨G,F,δ,d,δ1,ok,e1,fun v H1 F1 st sm ok1 r=>post v σ H1 F1 st ok1 (en n r)⟩
theorem Cs {t:E} {a b:Ss} {y:aE} {ya yb:List cY} {pos:Pos} (ht:PT X y (tT X.K cx t)) (ha:PSs X ya (tS X.K (dH cx a))) (hb:PSs X yb (tS X.K (dH cx b))):PS X (.If y ya yb pos) (tS X.K (evS cx (.ifs t a b))):=PS.imp (Mc ht ha hb) fun E σ H zz=>by
 obtain ⟨G,F,δ,out,ok,ev,post⟩:=zz;simp only [evS,ag,ae] at ev;obtain ⟨⟨q,δ1⟩,e1,ev⟩:=ev;refine ⟨G,F,δ,q,δ1,ok,e1,fun H1 F1 st sm ok1=>?_⟩
 cases q with
 | true=>exact hZ ⟨G,F1,δ1,out,ok1,ev,post.step st⟩
 | false=>exact iN ⟨G,F1,δ1,out,ok1,ev,post.step st⟩
theorem Ct (C:Cok X c cx k) {tg:Tg} {src:It} {body:Ss} {t it:aE} {ys:List cY} {pos:Pos} (htg:nK c tg t = true) (hI:PI X t it (tI X.K cx src)) (hset:∀ v,foldedSetIterable it X.env v = pure v) (hb:PSs X ys (tS X.K (dH cx body))):PS X (.For t it ys [] pos) (tS X.K (evS cx (.for_ tg src body))):=by
 have hp:PassesOwn (model X.prog X.w) X.A X.env X.xe:=by rw [C.xe];exact zc
 refine PS.imp (CW hp C.calm hI (lH C htg) hb hset) fun E σ H zz=>?_;obtain ⟨G,F,δ,out,ok,ev,post⟩:=zz;simp only [evS,ag,ae] at ev;obtain ⟨⟨ds,δ1⟩,e1,ev⟩:=ev;dsimp only at ev;generalize ef:(fun (x:D) (δ0:Loc)=>match dv δ0 tg x with | some δ2=>dH cx body δ2 | none=>none) = f at ev;refine ⟨G,F,δ,ds,δ1,ok,e1,fun J H1 F1 st sm ok1 wk=>?_⟩;refine ⟨fun i m σ' H'=>∃ F' δ',m = ds.length - i/\i<=ds.length/\Step G F1 H1 F' H'/\Ok X.K G F' σ' H' δ'/\forL f (ds.drop i) δ' = some out,⟨_,F1,δ1,rfl,cZ _,Step.refl,ok1,ev⟩,?_⟩;rintro i m σ' H' ⟨F',δ',rfl,hi,st',ok',ev'⟩;by_cases hlt:i < ds.length
 . right;obtain ⟨d,hd⟩:∃ d,ds[i]? = some d:=⟨ds[i],by simp [hlt]⟩;obtain ⟨go,yl⟩:=(wk _ F' H' st' ok'.fd i).1 d hd;refine ⟨go,?_⟩
   have edr:ds.drop i = d::ds.drop (i+1):=by
    rw [fL hlt];congr 1;rw [az hlt] at hd;exact bt hd
   rw [edr] at ev';unfold forL at ev';refine ⟨fun σ2 H2=>∃ m',m' < ds.length - i/\∃ F2 δ2,m' = ds.length - (i+1)/\i+1<=ds.length/\Step G F1 H1 F2 H2/\Ok X.K G F2 σ2 H2 δ2/\forL f (ds.drop (i+1)) δ2 = some out,fun σ2 H2 z=>z,fun x H3 hy=>?_⟩;obtain ⟨e3,rx⟩:=yl x H3 hy;subst e3
   cases hf:f d δ' with
   | none=>rw [hf] at ev';cases ev'
   | some o1 =>
     have hf':=hf;rw [<- ef] at hf';dsimp only at hf'
     cases hs:dv δ' tg d with
     | none=>rw [hs] at hf';cases hf'
     | some δ2 =>
       rw [hs] at hf';refine kL ok' rx hs fun σ2 ok2 _=>⟨G,F',δ2,o1,ok2,hf',?_⟩;rw [hf] at ev'
       cases o1 with
       | nx δ3=>exact fun σ3 H4 F4 s4 k4=>⟨_,by omega,F4,δ3,rfl,hlt,st'.trans s4,k4,ev'⟩
       | rt d3 δ3 =>
         cases ev'
         exact fun v σ3 H4 F4 s4 k4 r4=>post v σ3 H4 F4 ((st.trans st').trans s4) k4 r4
       | ro d3 δ3 =>
         cases ev';exact fun a xs σ3 H4 F4 s4 k4=>post a xs σ3 H4 F4 ((st.trans st').trans s4) k4
 . left;have hi':i = ds.length:=by omega
   subst hi';refine ⟨(wk _ F' H' st' ok'.fd ds.length).2 rfl,?_⟩;rw [ph] at ev';cases ev';exact post σ' H' F' (st.trans st') ok'
end
end PP
end
section
namespace PP
open PySem PySem.Spec PyProof.Rows
open Builtin.SmallTypes (nextOf)
section
variable {P:aM} {w:bj} {A:ba} {E:af->ai->Prop} {s:ai}
theorem wV {i l:av} {k:Nat} {xs:List af} {x:af} {Q:af->ai->Prop} (hit:s.heap.IsTupleIter i l k) (ht:s.heap.IsTuple l xs.toArray) (hx:xs[k]? = some x) (q:∀ h',h'.IsTupleIter i l (k+1)->fI i s.heap h'->Q x { s with heap:=h' }):wpAny (model P w) A (nextOf (.ref i)) Q E s:=by
 obtain ⟨o,ho,hc,hd⟩:=id hit;obtain ⟨ol,hol,_,nl,hdl⟩:=ht;have hx':xs.toArray[k]? = some x:=by simpa using hx
 unfold nextOf;refine ab (cb (name:=eN "__next__") hit.typeIs PySem.F.slot_tuple_iterator_next (bM PySem.F.slot_tuple_iterator_next hit.typeIs PySem.F.entry_tuple_iterator_next ?_ (PySem.F.args_tuple_iterator_next_1 _)));refine ab (m:=field (.ref i) 0) (bU ho hd (x:=.ref l) rfl ?_);refine (if_neg (show ¬ ((iK l == cm) = true) from aq))▸?_;refine ab (m:=field (.ref i) 1) (bU ho hd (x:=.int k 0) rfl ?_);refine ab (m:=seqItems? (.ref l)) (dE hol hdl ?_);simp only [jB,hx'];have sb:=bO s.heap i (jY (·.setIfInBounds 1 (rawInt ((k:Int)+1))));refine ab (eK ho hd (by simp) (aw ⟨x,rfl,aw (q _ ⟨_,eX _ ho (Obj.isFreed_of_fields (ET hd _)),(Obj.cls_mapFields ..).trans hc,?_⟩ sb)⟩));rw [ET hd];simp [rawInt]
theorem Am {i l:av} {k:Nat} {xs:List af} {Q:af->ai->Prop} (hh:A.handled = none) (hit:s.heap.IsTupleIter i l k) (ht:s.heap.IsTuple l xs.toArray) (hx:xs[k]? = none)
 (q:∀ h' e,zj i s.heap h'->(∃ o,h'.get? e = some o/\o.cls = .type "StopIteration")->E (.ref e) { s with heap:=h' }):wpAny (model P w) A (nextOf (.ref i)) Q E s:=by
 obtain ⟨o,ho,hc,hd⟩:=id hit;obtain ⟨ol,hol,_,nl,hdl⟩:=ht;have hx':xs.toArray[k]? = none:=by simpa using hx
 unfold nextOf;refine ab (cb (name:=eN "__next__") hit.typeIs PySem.F.slot_tuple_iterator_next (bM PySem.F.slot_tuple_iterator_next hit.typeIs PySem.F.entry_tuple_iterator_next ?_ (PySem.F.args_tuple_iterator_next_1 _)));refine ab (m:=field (.ref i) 0) (bU ho hd (x:=.ref l) rfl ?_);refine (if_neg (show ¬ ((iK l == cm) = true) from aq))▸?_;refine ab (m:=field (.ref i) 1) (bU ho hd (x:=.int k 0) rfl ?_);refine ab (m:=seqItems? (.ref l)) (dE hol hdl ?_);simp only [jB,hx'];refine ab (iI (ab (eK ho hd (by simp) (ab (m:=newExc (.type "StopIteration") []) ?_))));simp only [newExc,newTuple];refine ab (aR ?_ (by size_fits));refine ab (m:=firstArgMember _ _) (nS (a:=cm) (by first | rfl | (simp only [firstArgMember];rfl)) ?_);refine aR ?_ (by size_fits);simp only [raiseNew];refine ab (wpAny_handled ?_)
 first | rw [show A.in1.handled = none from hh] | rw [hh]
 exact ab (aw (wpAny_throw (q _ _ (((bO ..).extBut.push _).push _) ⟨_,aF _ rfl,rfl⟩)))
end
end PP
end
section
namespace PP
open PySem PySem.Spec L2 PyProof.Rows
open Builtin.SmallTypes (nextOf)
noncomputable def SqM (m:Bool) (K:PySem.W.Frag) (H:Hp) (a:av) (xs:List V):Prop:=if m = true then SqL K H a xs else SqT K H a xs
noncomputable def OkM (m:Bool) (h:bJ) (a:av) (us:List af):Prop:=if m = true then h.IsList a us.toArray else h.IsTuple a us.toArray
noncomputable def ItO (m:Bool) (h:bJ) (i l:av) (k:Nat):Prop:=if m = true then h.IsListIter i l k else h.IsTupleIter i l k
theorem ItO.at {m:Bool} {h h':bJ} {i l:av} {k:Nat} (x:ItO m h i l k) (e:∀ o,h.get? i = some o->h'.get? i = some o):ItO m h' i l k:=by
 cases m
 . exact Heap.IsTupleIter.at x e
 . exact Heap.IsListIter.at x e
theorem ItO.obj {m:Bool} {h:bJ} {i l:av} {k:Nat} (x:ItO m h i l k):∃ o,h.get? i = some o/\∀ v,o.data≠.cell v:=by
 cases m <;>
 . obtain ⟨o,e,_,d⟩:=x;exact ⟨o,e,fun v z=>by rw [d] at z;cases z⟩
section
variable {X:Cx} {pins:List (av × Obj)} {σ:L2.St} {H:Hp} {s:ai} {A:ba} {E:af->ai->Prop}
theorem okM (I:Inv X pins σ H s) (hq:SqM m X.K H l ys):∃ us,Vals ys us/\OkM m s.heap l us:=by
 cases m
 . obtain ⟨us,r,p,_⟩:=I.tuple hq;exact ⟨us,r,p⟩
 . obtain ⟨us,r,p,_⟩:=I.list hq;exact ⟨us,r,p.isList⟩
theorem xQ (I:Inv X pins σ H s) (h1:SqM m X.K H l xs) (h2:SqM m X.K H l ys):xs = ys:=by
 cases m
 . exact I.tuple_inj h1 h2
 . exact I.list_inj h1 h2
theorem tD {m:Bool} {i l:av} {k:Nat} {ys:List V} {x:V} {Q:af->ai->Prop} (I:Inv X pins σ H s) (hq:SqM m X.K H l ys) (hx:ys[k]? = some x) (it:ItO m s.heap i l k)
 (q:∀ u h',RelV x u->ItO m h' i l (k+1)->fI i s.heap h'->Q u { s with heap:=h' }):wpAny (model X.prog X.w) A (nextOf (.ref i)) Q E s:=by
 obtain ⟨us,r,ok⟩:=okM I hq;obtain ⟨u,hu,ru⟩:=r.get hx;cases m
 . exact wV it ok hu fun h' a b=>q u h' ru a b
 . exact wpAny_nextOf_list_item it ok (by simpa using hu) fun h' a b=>q u h' ru a b
theorem yC {m:Bool} {i l:av} {k:Nat} {ys:List V} {Q:af->ai->Prop} (hh:A.handled = none) (I:Inv X pins σ H s) (hq:SqM m X.K H l ys) (hx:ys.length<=k) (it:ItO m s.heap i l k)
 (q:∀ h' e,zj i s.heap h'->(∃ o,h'.get? e = some o/\o.cls = .type "StopIteration")->E (.ref e) { s with heap:=h' }):wpAny (model X.prog X.w) A (nextOf (.ref i)) Q E s:=by
 obtain ⟨us,r,ok⟩:=okM I hq;have hl:us[k]? = none:=eW (by rw [<- r.length];exact hx);cases m
 . exact Am hh it ok hl q
 . exact wpAny_nextOf_list_end hh it ok (by simpa using hl) q
structure Zp (h:bJ) (m1 m2:Bool) (z TI TO i1 i2 l1 l2:av) (f0:af) (k1 k2:Nat):Prop where
 hz:Ba h z TI TO f0
 ti:uk h TI (.ref i1) (.ref i2)
 to:∃ a b,uk h TO a b
 i1:ItO m1 h i1 l1 k1
 i2:ItO m2 h i2 l2 k2
structure Ap (z TI TO i1 i2:av):Prop where
 a1:TI≠z
 a2:TO≠z
 a3:i1≠z
 a4:i2≠z
 a5:TI≠TO
 a6:TI≠i1
 a7:TI≠i2
 a8:TO≠i1
 a9:TO≠i2
 a10:i1≠i2
theorem eQ {b:av} {h':bJ} (I:Inv X pins σ H s) (f:jX X pins H b) (k:∀ c o,c≠b->s.heap.get? c = some o->h'.get? c = some o):Inv X pins σ H { s with heap:=h' }:=I.turned (t':=s.toks) k f.1 f.2.1 f.2.2.2.1 f.2.2.2.2.1 f.2.2.2.2.2
theorem Bf {m1 m2:Bool} {z TI TO i1 i2 l1 l2:av} {k:Nat} {xs ys:List V} {x y:V} {Q:af->ai->Prop} (D:Ap z TI TO i1 i2) (I:Inv X pins σ H s) (hf:∀ b∈[z,TI,TO,i1,i2],jX X pins H b) (Z:Zp s.heap m1 m2 z TI TO i1 i2 l1 l2 .none k k)
 (q1:SqM m1 X.K H l1 xs) (q2:SqM m2 X.K H l2 ys) (hx:xs[k]? = some x) (hy:ys[k]? = some y)
 (hQ:∀ T h',H T = none->(∀ b∈[z,TI,TO,i1,i2],T≠b)->Inv X pins σ (upd H T (.tup [x,y])) { s with heap:=h' }->Zp h' m1 m2 z TI TO i1 i2 l1 l2 (rawInt T) (k+1) (k+1)->Q (.ref T) { s with heap:=h' }) :
 wpAny (model X.prog X.w) A (fX.«zip.__next__» ⟨[.ref z],[]⟩) (fun fin s'=>∃ v,fin = .done (.ret v)/\Q v s') E s:=by
 obtain ⟨hz,ti,⟨a,b,to⟩,h1,h2⟩:=Z;have fz:=hf z (by simp);have fT:=hf TO (by simp);have f1:=hf i1 (by simp);have f2:=hf i2 (by simp);refine ab (m:=field (.ref z) 2) (bU hz rfl (x:=.bool false) rfl ?_);refine ab (m:=field (.ref z) 3) (bU hz rfl (x:=.ref TI) rfl ?_);refine ab (dE ti rfl ?_);refine ab (m:=cR (.ref z)) ?_;unfold cR;refine ab (bU hz rfl (x:=.none) rfl (aw ?_));simp only [if_true];refine ab (iI (ab (bU hz rfl (x:=.ref TO) rfl (ab (gk hz (by simp) fun g1 y1 s1=>ab ?_)))));replace y1:Ba g1 z TI TO .ellipsis:=y1;have I1:=eQ I fz fun c o n e=>s1.extBut c o n e;simp only [EZ,HA,qB,List.forIn_nil];refine ab (ab (oZ (ab (m:=nextOf (.ref i1)) (tD I1 q1 hx (h1.at fun o e=>s1.extBut _ o D.a3 e) fun u g2 ru j1 s2=>aw ?_))));have I2:=eQ I1 f1 fun c o n e=>s2.extBut c o n e;have to2:uk g2 TO a b:=s2.extBut _ _ D.a8 (s1.extBut _ _ D.a2 to);refine ab (dE to2 rfl (ab (nR to2 fun g3 to3 s3=>ab (Ht (aw ?_)))));replace to3:uk g3 TO u b:=to3;have I3:=eQ I2 fT fun c o n e=>s3.extBut c o n e;refine ab (ab (oZ (ab (m:=nextOf (.ref i2)) (tD I3 q2 hy (((h2.at fun o e=>s1.extBut _ o D.a4 e).at fun o e=>s2.extBut _ o D.a10.symm e).at fun o e=>s3.extBut _ o D.a9.symm e) fun v g4 rv j2 s4=>aw ?_))));have I4:=eQ I3 f2 fun c o n e=>s4.extBut c o n e;have to4:uk g4 TO u b:=s4.extBut _ _ D.a9 to3;refine ab (dE to4 rfl (ab (nR to4 fun g5 to5 s5=>ab (Ht (aw (aw ?_))))));replace to5:uk g5 TO u v:=to5;have I5:=eQ I4 fT fun c o n e=>s5.extBut c o n e;refine ab (dE to5 rfl (ab (wpAny_newTuple ?_)));have hT:H g5.objs.size = none:=I5.hok.fresh (aB _);have z5:Ba g5 z TI TO .ellipsis:=s5.extBut _ _ D.a2.symm (s4.extBut _ _ D.a4.symm (s3.extBut _ _ D.a2.symm (s2.extBut _ _ D.a3.symm y1)));have ti5:uk g5 TI (.ref i1) (.ref i2):=s5.extBut _ _ D.a5 (s4.extBut _ _ D.a7 (s3.extBut _ _ D.a5 (s2.extBut _ _ D.a6 (s1.extBut _ _ D.a1 ti))));have k1:ItO m1 g5 i1 l1 (k+1):=((j1.at fun o e=>s3.extBut _ o D.a8.symm e).at fun o e=>s4.extBut _ o D.a10 e).at fun o e=>s5.extBut _ o D.a8.symm e;have k2:ItO m2 g5 i2 l2 (k+1):=j2.at fun o e=>s5.extBut _ o D.a9.symm e;have Tz:g5.objs.size≠z:=fK (aA z5)
 have Ts:∀ b∈[z,TI,TO,i1,i2],g5.objs.size≠b:=fun b hb=>by
  obtain ⟨_,e1,_⟩:=k1.obj;obtain ⟨_,e2,_⟩:=k2.obj;simp only [aC,aQ,or_false] at hb;rcases hb with rfl | rfl | rfl | rfl | rfl
  . exact Tz
  . exact fK (aA ti5)
  . exact fK (aA to5)
  . exact fK (aA e1)
  . exact fK (aA e2)
 have I6:Inv X pins σ (upd H g5.objs.size (.tup [x,y])) { s with heap:=g5.push { cls:=.type "tuple",data:=.seq #[u,v] } } :=
  I5.laid (t':=s.toks) (fun b u e=>ah _ e) (aB _) ⟨by show 2<=sizeLine;decide,[u,v],.cons ru (.cons rv .nil),⟨_,aF _ rfl,rfl,_,rfl⟩⟩
 have fz6:jX X pins (upd H g5.objs.size (.tup [x,y])) z:=⟨by rw [bq Tz.symm];exact fz.1,fz.2⟩;refine ab (m:=je (.ref z) (.ref g5.objs.size)) ?_;unfold je;have z6:Ba (g5.push { cls:=.type "tuple",data:=.seq #[u,v] }) z TI TO .ellipsis:=ah _ z5;refine ab (gk z6 (by simp) fun g7 z7 s7=>?_);replace z7:Ba g7 z TI TO (rawInt g5.objs.size):=z7;refine gk z7 (by simp) fun g8 z8 s8=>?_;replace z8:Ba g8 z TI TO (rawInt g5.objs.size):=z8;have up:∀ c o,c≠z->g5.get? c = some o->g8.get? c = some o:=fun c o n e=>s8.extBut _ _ n (s7.extBut _ _ n (ah _ e));have I8:=eQ (eQ I6 fz6 fun c o n e=>s7.extBut c o n e) fz6 fun c o n e=>s8.extBut c o n e;exact aw ⟨_,rfl,hQ g5.objs.size g8 hT Ts I8 ⟨z8,up _ _ D.a1 ti5,⟨_,_,up _ _ D.a2 to5⟩,k1.at fun o e=>up _ o D.a3 e,k2.at fun o e=>up _ o D.a4 e⟩⟩
theorem Be {m1 m2:Bool} {z TI TO i1 i2 l1 l2:av} {k:Nat} {xs ys:List V} {Q:PySem.Fin->ai->Prop} (hh:A.handled = none) (D:Ap z TI TO i1 i2) (I:Inv X pins σ H s) (hf:∀ b∈[z,TI,TO,i1,i2],jX X pins H b) (Z:Zp s.heap m1 m2 z TI TO i1 i2 l1 l2 .none k k)
 (q1:SqM m1 X.K H l1 xs) (q2:SqM m2 X.K H l2 ys) (hend:xs.length<=k\/ys.length<=k)
 (hE:∀ h' e,Inv X pins σ H { s with heap:=h' }->(∃ o,h'.get? e = some o/\o.cls = .type "StopIteration")->E (.ref e) { s with heap:=h' }) :
 wpAny (model X.prog X.w) A (fX.«zip.__next__» ⟨[.ref z],[]⟩) Q E s:=by
 obtain ⟨hz,ti,⟨a,b,to⟩,h1,h2⟩:=Z;have fz:=hf z (by simp);have fT:=hf TO (by simp);have f1:=hf i1 (by simp);have f2:=hf i2 (by simp);refine ab (m:=field (.ref z) 2) (bU hz rfl (x:=.bool false) rfl ?_);refine ab (m:=field (.ref z) 3) (bU hz rfl (x:=.ref TI) rfl ?_);refine ab (dE ti rfl ?_);refine ab (m:=cR (.ref z)) ?_;unfold cR;refine ab (bU hz rfl (x:=.none) rfl (aw ?_));simp only [if_true];refine ab (iI (ab (bU hz rfl (x:=.ref TO) rfl (ab (gk hz (by simp) fun g1 y1 s1=>ab ?_)))));replace y1:Ba g1 z TI TO .ellipsis:=y1;have I1:=eQ I fz fun c o n e=>s1.extBut c o n e;simp only [EZ,HA,qB,List.forIn_nil];have j1:ItO m1 g1 i1 l1 k:=h1.at fun o e=>s1.extBut _ o D.a3 e
 have last:∀ {g:bJ} {e:av} (Ig:Inv X pins σ H { s with heap:=g }) (zg:Ba g z TI TO .ellipsis) (he:∃ o,g.get? e = some o/\o.cls = .type "StopIteration"),
  wpAny (model X.prog X.w) A (setField (.ref z) 0 .none) (fun _ s'=>E (.ref e) s') E { s with heap:=g }:=fun {g e} Ig zg he=>by
  obtain ⟨o,ho,hc⟩:=he;have ez:e≠z:=fun x=>by subst x;rw [zg] at ho;cases ho;simp at hc
  refine gk zg (by simp) fun g' _ s'=>?_;have I':=eQ (h':=g') Ig fz fun c o n e=>s'.extBut c o n e;exact hE g' e I' ⟨o,s'.extBut _ _ ez ho,hc⟩
 refine ab (ab (oZ (ab (m:=nextOf (.ref i1)) ?_)));by_cases hx:xs.length<=k
 . refine yC hh I1 q1 hx j1 fun g2 e x2 he=>?_;have I2:=eQ (h':=g2) I1 f1 fun c o n e=>x2 c o n e;exact last I2 (x2 _ _ D.a3.symm y1) he
 . obtain ⟨x,ex⟩:∃ x,xs[k]? = some x:=⟨xs[k],az (by omega)⟩;refine tD I1 q1 ex j1 fun u g2 ru j1' s2=>aw ?_;have I2:=eQ I1 f1 fun c o n e=>s2.extBut c o n e;have to2:uk g2 TO a b:=s2.extBut _ _ D.a8 (s1.extBut _ _ D.a2 to);refine ab (dE to2 rfl (ab (nR to2 fun g3 to3 s3=>ab (Ht (aw ?_)))));have I3:=eQ I2 fT fun c o n e=>s3.extBut c o n e;refine ab (ab (oZ (ab (m:=nextOf (.ref i2)) ?_)));refine yC hh I3 q2 (by omega) (((h2.at fun o e=>s1.extBut _ o D.a4 e).at fun o e=>s2.extBut _ o D.a10.symm e).at fun o e=>s3.extBut _ o D.a9.symm e) fun g4 e x4 he=>?_;have I4:=eQ (h':=g4) I3 f2 fun c o n e=>x4 c o n e;exact last I4 (x4 _ _ D.a4.symm (s3.extBut _ _ D.a2.symm (s2.extBut _ _ D.a3.symm y1))) he
end
end PP
end
section
namespace PP
open PySem PySem.Spec L2 PyProof.Rows
noncomputable def Itz (K:PySem.W.Frag) (m1 m2:Bool) (l1 l2:av):L2.It :=
 ⟨fun i H=>∃ xs ys x y,SqM m1 K H l1 xs/\SqM m2 K H l2 ys/\xs[i]? = some x/\ys[i]? = some y,
   fun i H v H'=>∃ T x y,v = .ref T/\H T = none/\H' = upd H T (.tup [x,y])/\(∀ xs,SqM m1 K H l1 xs->xs[i]? = some x)/\∀ ys,SqM m2 K H l2 ys->ys[i]? = some y,
   fun i H=>∃ xs ys,SqM m1 K H l1 xs/\SqM m2 K H l2 ys/\(xs.length<=i\/ys.length<=i)⟩
theorem BS {P:aM} {w:bj} {K:PySem.W.Frag} {elts:List aE} {k0:Nat} {pos:Pos} {m1 m2:Bool} {z TI TO i1 i2 l1 l2:av} (D:Ap z TI TO i1 i2) :
 Turn P w K (.Tuple elts k0 pos) (Itz K m1 m2 l1 l2) [z,TI,TO,i1,i2] z (fun i h=>Zp h m1 m2 z TI TO i1 i2 l1 l2 .none i i) where
 mem:=by simp
 obj:=fun i h st b hb=>by
  obtain ⟨hz,ti,⟨a,c,to⟩,h1,h2⟩:=st;simp only [aC,aQ,or_false] at hb;rcases hb with rfl | rfl | rfl | rfl | rfl
  . exact ⟨_,hz,fun v z=>by cases z⟩
  . exact ⟨_,ti,fun v z=>by cases z⟩
  . exact ⟨_,to,fun v z=>by cases z⟩
  . exact h1.obj
  . exact h2.obj
 keep:=fun i h h' st k=>by
  obtain ⟨hz,ti,⟨a,c,to⟩,h1,h2⟩:=st;exact ⟨k z (by simp) _ hz,k TI (by simp) _ ti,⟨a,c,k TO (by simp) _ to⟩,h1.at fun o e=>k _ (by simp) o e,h2.at fun o e=>k _ (by simp) o e⟩
 item:=by
  intro X hP hw hK hc i pins s σ H E I hf st hg;subst hP hw hK;obtain ⟨xs,ys,x,y,q1,q2,hx,hy⟩:=hg;have hT:s.TypeIs (.ref z) "zip":=⟨_,st.hz,rfl⟩;unfold pyNext;refine ab (pb (cb (name:=eN "__next__") hT PySem.F.slot_zip_next (bM PySem.F.slot_zip_next hT PySem.F.entry_zip_next (Bf D I hf st q1 q2 hx hy fun T h' nT nb I' Z'=>aw ⟨.ref T,rfl,?_⟩) (PySem.F.args_zip_next_1 _))));refine wpAny_letOwnedTupleGo_zip Z'.hz fun h2 z2 s2=>?_;have hn:∀ b∈[z,TI,TO,i1,i2],upd H T (.tup [x,y]) b = none:=fun b hb=>by rw [bq (nb b hb).symm];exact (hf b hb).1
  have I2:=eQ (h':=h2) I' ⟨hn z (by simp),(hf z (by simp)).2⟩ fun c o n e=>s2.extBut c o n e;obtain ⟨_,ti,⟨a,c,to⟩,h1,h2'⟩:=Z'
  exact ⟨.ref T,upd H T (.tup [x,y]),I2,rfl,⟨T,x,y,rfl,nT,rfl,fun xs' h=>by rw [xQ I h q1];exact hx,fun ys' h=>by rw [xQ I h q2];exact hy⟩,
   ⟨z2,s2.extBut _ _ D.a1 ti,⟨a,c,s2.extBut _ _ D.a2 to⟩,h1.at fun o e=>s2.extBut _ o D.a3 e,h2'.at fun o e=>s2.extBut _ o D.a4 e⟩,hn⟩
 done:=by
  intro X hP hw hK hc i pins s σ H E I hf st hg;subst hP hw hK;obtain ⟨xs,ys,q1,q2,he⟩:=hg;have hT:s.TypeIs (.ref z) "zip":=⟨_,st.hz,rfl⟩;unfold pyNext;refine ab (pb (cb (name:=eN "__next__") hT PySem.F.slot_zip_next (bM PySem.F.slot_zip_next hT PySem.F.entry_zip_next (Be (I.ok.hd hc) D I hf st q1 q2 he fun h' e I' he=>?_) (PySem.F.args_zip_next_1 _))));obtain ⟨o,ho,hc⟩:=he;exact ab (uh (T:="StopIteration") (b:=true) ⟨o,ho,hc⟩ isSubtype_stop (aw ⟨rfl,I'⟩))
 self:=fun _ _ _ _ _ st h=>wpAny_pyIter_zip st.hz h
noncomputable def itN (m:Bool):String:=if m = true then "list_iterator" else "tuple_iterator"
noncomputable def iT (m:Bool) (l:av):Obj:={ cls:=.type (itN m),data:=.fields #[.ref l,.int 0 0] }
theorem iterM {E:af->ai->Prop} (ok:OkM m s.heap l us) (h:Q (.ref s.heap.objs.size) { s with heap:=s.heap.push (iT m l) }):wpAny (model prog w) A (pyIter (.ref l)) Q E s:=by
 cases m
 . exact Ld (show s.heap.IsTuple l us.toArray from ok) h
 . exact qM (show s.heap.IsList l us.toArray from ok) h
theorem OkM.push (ok:OkM m h l us) (o:Obj):OkM m (h.push o) l us:=by
 cases m
 . exact Heap.IsTuple.at (show h.IsTuple l us.toArray from ok) fun o e=>ah _ e
 . exact Heap.IsList.push ok o
noncomputable def zH (h:bJ) (m1 m2:Bool) (l1 l2:av):bJ:=((((h.push (iT m1 l1)).push (iT m2 l2)).push { cls:=.type "tuple",data:=.seq #[.ref h.objs.size,.ref (h.objs.size+1)] }).push { cls:=.type "tuple",data:=.seq #[.none,.none] }).push { cls:=.type "zip",data:=.fields #[.none,.bool false,.bool false,.ref (h.objs.size+2),.ref (h.objs.size+3)] }
theorem Ao (l1 l2:av) (us vs:List af):Meets (fX.«zip.__new__» ⟨[.type "zip",.ref l1,.ref l2],[]⟩) (fun _ R s=>OkM m1 s.heap l1 us/\OkM m2 s.heap l2 vs/\R (.ok (.ret (.ref (s.heap.objs.size+4)))) { s with heap:=zH s.heap m1 m2 l1 l2 }) :=
 .of_wp fun prog w A R s h=>by
  obtain ⟨hp,g,d,tk,os⟩:=s;obtain ⟨o1,o2,h⟩:=h;have hsub:=sub_zip;have L1:OkM m1 (Shared.heap ⟨hp,g,d,tk,os⟩) l1 us:=o1;have L2:OkM m2 (Shared.heap ⟨hp.push (iT m1 l1),g,d,tk,os⟩) l2 vs:=OkM.push o2 _
  wp_walk using iterM L1,iterM L2
  refine ⟨_,rfl,?_⟩;unfold zH at h;simp only [bH];exact h
section
variable {prog:aM} {w:bj} {A:ba} {E:af->ai->Prop} {s:ai}
theorem AE (o1:OkM m1 s.heap l1 us) (o2:OkM m2 s.heap l2 vs)
 (h:∀ h',Zp h' m1 m2 (s.heap.objs.size+4) (s.heap.objs.size+2) (s.heap.objs.size+3) s.heap.objs.size (s.heap.objs.size+1) l1 l2 .none 0 0->(∀ c o,s.heap.get? c = some o->h'.get? c = some o)->Q (.ref (s.heap.objs.size+4)) { s with heap:=h' }) :
 wpAny (model prog w) A (call (.type "zip") [.ref l1,.ref l2]) Q E s:=by
 refine callType_new PySem.F.called_zip (by decide) (PySem.F.typeCall_zip_2 _ _) (PySem.F.newCall_zip_2 _ _) (fun obj=>PySem.F.args_object_init_3 obj _ _) PySem.F.entry_zip_new (Ao (m1:=m1) (m2:=m2) l1 l2 us vs) ⟨o1,o2,?_⟩;have up:∀ {h:bJ} {c:av} {o o':Obj},h.get? c = some o->(h.push o').get? c = some o:=fun e=>ah _ e;have at_:∀ {h:bJ} {o:Obj} {n:av},h.objs.size = n->o.isFreed = false->(h.push o).get? n = some o:=fun e f=>by rw [<- e];exact aF _ f
 have z1:(s.heap.push (iT m1 l1)).objs.size = s.heap.objs.size+1:=bH ..;have z2:((s.heap.push (iT m1 l1)).push (iT m2 l2)).objs.size = s.heap.objs.size+2:=by rw [bH,z1]
 have z3:(((s.heap.push (iT m1 l1)).push (iT m2 l2)).push { cls:=.type "tuple",data:=.seq #[.ref s.heap.objs.size,.ref (s.heap.objs.size+1)] }).objs.size = s.heap.objs.size+3:=by rw [bH,z2]
 have z4:((((s.heap.push (iT m1 l1)).push (iT m2 l2)).push { cls:=.type "tuple",data:=.seq #[.ref s.heap.objs.size,.ref (s.heap.objs.size+1)] }).push { cls:=.type "tuple",data:=.seq #[.none,.none] }).objs.size = s.heap.objs.size+4:=by rw [bH,z3]
 have g5:(zH s.heap m1 m2 l1 l2).get? (s.heap.objs.size+4) = some _:=at_ z4 rfl;have g4:(zH s.heap m1 m2 l1 l2).get? (s.heap.objs.size+3) = some _:=up (at_ z3 rfl);have g3:(zH s.heap m1 m2 l1 l2).get? (s.heap.objs.size+2) = some _:=up (up (at_ z2 rfl));have g2:(zH s.heap m1 m2 l1 l2).get? (s.heap.objs.size+1) = some (iT m2 l2):=up (up (up (at_ z1 rfl)));have g1:(zH s.heap m1 m2 l1 l2).get? s.heap.objs.size = some (iT m1 l1):=up (up (up (up (at_ rfl rfl))));have it:∀ {m:Bool} {i l:av} {h:bJ},h.get? i = some (iT m l)->ItO m h i l 0:=fun {m i l h} e=>by cases m<;>exact ⟨_,e,rfl,rfl⟩
 exact ⟨⟨_,g5,rfl⟩,h _ ⟨g5,g3,⟨_,_,g4⟩,it g1,it g2⟩ fun c o e=>up (up (up (up (up e))))⟩
end
theorem Kc (h:a≠b):(show av from a)≠(show av from b):=h
noncomputable def NJ (K:PySem.W.Frag) (ta:TA):TI:=fun σ H R=>ta σ H fun vs H1=>∃ m1 m2 l1 l2 xs ys,vs = [.ref l1,.ref l2]/\SqM m1 K H1 l1 xs/\SqM m2 K H1 l2 ys/\R (Itz K m1 m2 l1 l2) H1
theorem Jw {X:Cx} {elts:List aE} {k0:Nat} {tp:Pos} {a b:aE} {ta:TA} {p pos:Pos} (hg:Gl X "zip") (hm:X.mg "zip" = none) (ha:PA X [a,b] ta) (hs:starEach [a,b] X.env = (false,eval a X.env)::starEach [b] X.env) (hpl:(backTo pos (starEach [b] X.env)).any (·.1) = false) :
 PI X (.Tuple elts k0 tp) (.Call (.Name "zip" p) [a,b] [] pos) (NJ X.K ta):=by
 intro pins s σ H R I h;refine Call_ (qe I hg hm boot_zip (gG (thn (ha pos pins s σ H _ I h) fun us s1 ⟨vs,H1,I1,r1,q1⟩=>?_) hs hpl));obtain ⟨m1,m2,l1,l2,xs,ys,rfl,s1',s2',q⟩:=q1;obtain ⟨u,rr,e,r,rr1⟩:∃ u rr,us = u::rr/\RelV (.ref l1) u/\Vals [.ref l2] rr:=by cases r1 with | cons r rr=>exact ⟨_,_,rfl,r,rr⟩
 obtain ⟨v,rfl,r2⟩:=vals1 rr1;subst e;cases r;cases r2;obtain ⟨us1,_,o1⟩:=okM I1 s1';obtain ⟨us2,_,o2⟩:=okM I1 s2';refine AE o1 o2 fun h' Z k=>?_;refine wpAny_pyIter_zip Z.hz ?_
 have D:Ap (s1.heap.objs.size+4) (s1.heap.objs.size+2) (s1.heap.objs.size+3) s1.heap.objs.size (s1.heap.objs.size+1):=by
  constructor<;>(refine Kc ?_;lia)
 refine ⟨_,_,_,_,H1,rfl,I1.kept (t':=s1.toks) k,BS D,Z,fun b hb=>?_,q⟩
 have hle:s1.heap.objs.size<=b:=by
  simp only [aC,aQ,or_false] at hb;rcases hb with rfl | rfl | rfl | rfl | rfl<;>lia
 exact I1.fpOk hle (I1.hok.fresh hle)
end PP
end
section
namespace PP
open PySem L2 PyProof.Rows
variable [Tbs]
section
variable {X:Cx} {c:Ck} {cx:Cl} {k:Nat}
noncomputable def kM:D->Bool
 | .lst _=>true
 | _=>false
theorem oQ {K:PySem.W.Frag} {H:Hp} {F:av->Prop} {d:D} {ds:List D} {v:V} (e:CC d = some ds) (r:Rel K H F d v):∃ a us,v = .ref a/\SqM (kM d) K H a us/\aG K H F ds us:=by
 cases d with
 | lst l =>
   cases e;obtain ⟨a,us,e1,h1,h2⟩:=dD.lst (.inl r)
   exact ⟨a,us,e1,h1.sq,h2⟩
 | tup l =>
   cases e;obtain ⟨a,us,e1,h1,h2⟩:=dD.tup (.inl r)
   exact ⟨a,us,e1,h1,h2⟩
 | _=>cases e
theorem zW (C:Cok X c cx k) {tg:Tg} {es:Es} {body:Ss} {t a b:aE} {ys:List cY} {p cp pos:Pos} (ht:GZ t = true) (htg:nK c tg t = true) (hg:Gl X "zip") (hm:X.mg "zip" = none) (hA:PA X [a,b] (tEs X.K cx es)) (hc:gc c es [a,b] = true) (n:gL es = true) (hb:PSs X ys (tS X.K (dH cx body))) :
 PS X (.For t (.Call (.Name "zip" p) [a,b] [] cp) ys [] pos) (tS X.K (evS cx (.forZ tg es body))):=by
 have hp:PassesOwn (model X.prog X.w) X.A X.env X.xe:=by rw [C.xe];exact zc
 have tt:∃ es n q,t = .Tuple es n q:=by
  rcases pI htg with ⟨_,_,rfl⟩ | h
  . cases ht
  . exact h
 obtain ⟨elts,k0,tp,rfl⟩:=tt;obtain ⟨_,_,_,c1,c2⟩:=eH hc;refine PS.imp (CW hp C.calm (Jw hg hm hA (cK (bX c1) _ _) (jm c2)) (lH C htg) hb (fun v=>rfl)) fun E σ H zz=>?_;obtain ⟨G,F,δ,out,ok,ev,post⟩:=zz;simp only [evS,ag,ae] at ev;obtain ⟨⟨ds,δ1⟩,e1,ev⟩:=ev;dsimp only at ev;split at ev
 . rename_i x y;split at ev
   . rename_i xs ys' ex ey;generalize ef:(fun (x:D) (δ0:Loc)=>match dv δ0 tg x with | some δ2=>dH cx body δ2 | none=>none) = f at ev;refine ⟨G,F,δ,[x,y],δ1,ok,e1,fun vs H1 F1 st sm ok1 r1=>?_⟩;have r:=r1.rl n;unfold aG at r;obtain ⟨v1,_,rfl,q1,r⟩:=r;unfold aG at r;obtain ⟨v2,_,rfl,q2,r⟩:=r;unfold aG at r;subst r;obtain ⟨l1,us1,rfl,s1,_⟩:=oQ ex q1;obtain ⟨l2,us2,rfl,s2,_⟩:=oQ ey q2;refine ⟨kM x,kM y,l1,l2,us1,us2,rfl,s1,s2,?_⟩;have zl:(jf xs ys').length = min xs.length ys'.length:=by unfold jf;rw [ao,HD]
     refine ⟨fun i m σ' H'=>∃ F' δ',m = (jf xs ys').length - i/\i<=(jf xs ys').length/\Step G F1 H1 F' H'/\Ok X.K G F' σ' H' δ'/\forL f ((jf xs ys').drop i) δ' = some out,⟨_,F1,δ1,rfl,cZ _,Step.refl,ok1,ev⟩,?_⟩;rintro i m σ' H' ⟨F',δ',rfl,hi,st',ok',ev'⟩;obtain ⟨_,w1,ea,t1,rl1⟩:=oQ ex (Rel.step ok1.fd st' _ _ q1);cases ea;obtain ⟨_,w2,ea,t2,rl2⟩:=oQ ey (Rel.step ok1.fd st' _ _ q2);cases ea;have ll1:=rl1.length;have ll2:=rl2.length;by_cases hlt:i < (jf xs ys').length
     . right;have h1:i < xs.length:=by lia
       have h2:i < ys'.length:=by lia
       obtain ⟨a1,ha1,ra1⟩:=rl1.get (az h1);obtain ⟨a2,ha2,ra2⟩:=rl2.get (az h2)
       have edr:(jf xs ys').drop i = .tup [xs[i],ys'[i]]::(jf xs ys').drop (i+1):=by
        have e0:(jf xs ys')[i]? = some (.tup [xs[i],ys'[i]]):=by
         unfold jf;rw [bG,(List.getElem?_zip_eq_some (z:=(xs[i],ys'[i]))).mpr ⟨az h1,az h2⟩];rfl
        rw [fL hlt];congr 1;rw [az hlt] at e0;exact bt e0
       rw [edr] at ev';unfold forL at ev';refine ⟨⟨w1,w2,a1,a2,t1,t2,ha1,ha2⟩,fun σ2 H2=>∃ m',m' < (jf xs ys').length - i/\∃ F2 δ2,m' = (jf xs ys').length - (i+1)/\i+1<=(jf xs ys').length/\Step G F1 H1 F2 H2/\Ok X.K G F2 σ2 H2 δ2/\forL f ((jf xs ys').drop (i+1)) δ2 = some out,fun σ2 H2 z=>z,fun v H3 hy=>?_⟩;obtain ⟨T,b1,b2,rfl,nT,rfl,y1,y2⟩:=hy;have eb1:b1 = a1:=bt ((y1 _ t1).symm.trans ha1);have eb2:b2 = a2:=bt ((y2 _ t2).symm.trans ha2);subst eb1 eb2;have rx:=iD ok' nT (aG.cons ra1 (aG.cons ra2 aG.nil));have sn:=bV nT (.tup [b1,b2]);have ok3:=ok'.same' sn;have st3:=st'.trans (Step.of_same sn)
       cases hf:f (.tup [xs[i],ys'[i]]) δ' with
       | none=>rw [hf] at ev';cases ev'
       | some o1 =>
         have hf':=hf;rw [<- ef] at hf';dsimp only at hf'
         cases hs:dv δ' tg (.tup [xs[i],ys'[i]]) with
         | none=>rw [hs] at hf';cases hf'
         | some δ2 =>
           rw [hs] at hf';refine kL ok3 rx hs fun σ2 ok2 _=>⟨G,F',δ2,o1,ok2,hf',?_⟩;rw [hf] at ev'
           cases o1 with
           | nx δ3=>exact fun σ3 H4 F4 s4 k4=>⟨_,by lia,F4,δ3,rfl,hlt,st3.trans s4,k4,ev'⟩
           | rt d3 δ3 =>
             cases ev'
             exact fun v σ3 H4 F4 s4 k4 r4=>post v σ3 H4 F4 ((st.trans st3).trans s4) k4 r4
           | ro d3 δ3 =>
             cases ev';exact fun a xs σ3 H4 F4 s4 k4=>post a xs σ3 H4 F4 ((st.trans st3).trans s4) k4
     . left;have hi':i = (jf xs ys').length:=by lia
       refine ⟨⟨w1,w2,t1,t2,by lia⟩,?_⟩;rw [hi',ph] at ev';cases ev';exact post σ' H' F' (st.trans st') ok'
   . cases ev
 . cases ev
end
section
variable {X:Cx} {c:Ck} {cx:Cl} {k:Nat}
theorem ML (h:ckE c e z = true):((backTo cp (starEach [z] env)).all (fun x=>!x.1) && (backToKw cp (keywordEach [] env)).all (fun x=>x.1.isSome)
 && decide (([z]:List aE).length+([]:List jz).length+(if ([]:List jz).isEmpty then 0 else 1) < 30)) = true:=by
 rw [cK (bX h)];rfl
theorem uN (C:Cok X c cx k) (hx:eZ c i x = true) (hl:ap.endLine = cp.line) (hz:ckE c e z = true) (n:(!bL e) = true) (he:PE X z (tE X.K cx e)) :
 PS X (.Expr (.Call (.Attribute (.Name x p1) "append" ap) [z] [] cp) p2) (tS X.K (evS cx (.append i e))):=by
 obtain ⟨n1,n2,n3,n4⟩:=C.name hx;have hs:=cK (bX hz) [] X.env;have hA:PA X [z] (tEs X.K cx (.cons e .nil)):=pN (by simp [npS]) he sC hs;refine PS.imp (yh (HJ PySem.F.plainAttrs_list PySem.F.slot_list_append PySem.F.type_list_append rE (jK n1 n2 n3 n4) hA rfl (ML hz) (by simpa using hl) hs rfl)) fun E σ H zz=>?_;obtain ⟨G,F,δ,out,ok,ev,post⟩:=zz;simp only [evS] at ev
 cases q:δ[i]? with
 | none=>rw [q] at ev;cases ev
 | some s =>
   rw [q] at ev
   cases s with
   | no=>cases ev
   | fnc _ _=>cases ev
   | val _=>cases ev
   | own ds0 =>
     simp only [ag,ae] at ev;obtain ⟨⟨d,δ1⟩,e1,ev⟩:=ev;dsimp only at ev;obtain ⟨a,xs0,ea,f1,f2,f3,f4⟩:=ok.sl i _ q
     cases q1:δ1[i]? with
     | none=>rw [q1] at ev;cases ev
     | some s1 =>
       rw [q1] at ev
       cases s1 with
       | no=>cases ev
       | fnc _ _=>cases ev
       | val _=>cases ev
       | own ds =>
         dsimp only at ev;split at ev
         . rename_i hz';cases ev;refine ⟨.ref a,ea,.inl ⟨rfl,xs0,.inl (.inl f3)⟩,G,F,δ,[d],δ1,ok,by simp [fW,e1],fun vs H1 F1 st sm ok1 r=>?_⟩;obtain ⟨d',ds',v,vs',ed,rfl,rv,rn⟩:=r;cases ed;obtain ⟨_,rfl⟩:=rn;have rv':=en n rv;obtain ⟨a',xs,ea',g1,g2,g3,g4⟩:=ok1.sl i _ q1;rw [ea] at ea';cases ea';obtain ⟨o1,o2⟩:=ok1.write q1 ea (g4.append (aG.one rv'));exact ⟨a,xs,v,rfl,rfl,g3,by rw [g4.length];exact hz',post σ _ F1 (st.trans o2) o1⟩
         . cases ev
noncomputable def LZ (X:Cx):V->List V->Hp->VK->Prop:=fun x vs H Q=>∃ l b xs zs,x = .ref l/\vs = [.ref b]/\H l = some (.lst xs)/\LsB X.K H b zs/\xs.length+zs.length<=sizeLine/\Q .non (upd H l (.lst (xs++zs)))
theorem GR:MtM X "list.extend" (LZ X):=by
 intro pins s σ H x vs v us Q I rx rv h;obtain ⟨l,b,xs,zs,rfl,rfl,hH,hB,hz,q⟩:=h;cases rx;obtain ⟨u,rfl,ru⟩:=rv.one;cases ru;obtain ⟨z,its,n,r,hl,e⟩:=I.lstM hH;obtain ⟨its2,n2,r2,e2,z2⟩:=hB.obj I;have hl2:=r2.length;have s1:its.toArray.size = xs.length:=by rw [aD];lia
 have s2:its2.toArray.size = zs.length:=by rw [aD];lia
 refine call_meets F.slot_list_extend ⟨_,e,rfl⟩ F.entry_list_extend (F.args_list_extend_2 _ _) (AutoSeq1.list_extend_list_list_0 l its.toArray n b its2.toArray n2 ?_ (by rw [s1];lia) (by lia)) ⟨e,e2,?_⟩
 . rw [s1,s2,DC hz,Bool.and_false];exact aq
 . refine ⟨.non,_,I.lset (its':=its++its2) hH e (by simp) (r.append r2) (by rw [aj];lia),rfl,q⟩
theorem uL (C:Cok X c cx k) (hx:eZ c i x = true) (hl:ap.endLine = cp.line) (hz:ckE c e z = true) (n:(!bL e) = true) (he:PE X z (tE X.K cx e)) :
 PS X (.Expr (.Call (.Attribute (.Name x p1) "extend" ap) [z] [] cp) p2) (tS X.K (evS cx (.extend i e))):=by
 obtain ⟨n1,n2,n3,n4⟩:=C.name hx;have hs:=cK (bX hz) [] X.env;have hA:PA X [z] (tEs X.K cx (.cons e .nil)):=pN (by simp [npS]) he sC hs;refine PS.imp (yh (HJ PySem.F.plainAttrs_list PySem.F.slot_list_extend PySem.F.type_list_extend GR (jK n1 n2 n3 n4) hA rfl (ML hz) (by simpa using hl) hs rfl)) fun E σ H zz=>?_;obtain ⟨G,F,δ,out,ok,ev,post⟩:=zz;simp only [evS] at ev
 cases q:δ[i]? with
 | none=>rw [q] at ev;cases ev
 | some s =>
   rw [q] at ev
   cases s with
   | no=>cases ev
   | fnc _ _=>cases ev
   | val _=>cases ev
   | own ds0 =>
     simp only [ag,ae] at ev;obtain ⟨⟨d,δ1⟩,e1,ev⟩:=ev;obtain ⟨a,xs0,ea,f1,f2,f3,f4⟩:=ok.sl i _ q
     cases d with
     | lst ys =>
       dsimp only at ev
       cases q1:δ1[i]? with
       | none=>rw [q1] at ev;cases ev
       | some s1 =>
         rw [q1] at ev
         cases s1 with
         | no=>cases ev
         | fnc _ _=>cases ev
         | val _=>cases ev
         | own ds =>
           dsimp only at ev;split at ev
           . rename_i hz';cases ev;refine ⟨.ref a,ea,.inl ⟨rfl,xs0,.inl (.inl f3)⟩,G,F,δ,[.lst ys],δ1,ok,by simp [fW,e1],fun vs H1 F1 st sm ok1 r=>?_⟩;obtain ⟨d',ds',v,vs',ed,rfl,rv,rn⟩:=r;cases ed;obtain ⟨_,rfl⟩:=rn;have rv':=en n rv;unfold Rel at rv';obtain ⟨b,zs,rfl,rb,rl⟩:=rv';obtain ⟨a',xs,ea',g1,g2,g3,g4⟩:=ok1.sl i _ q1;rw [ea] at ea';cases ea';obtain ⟨o1,o2⟩:=ok1.write q1 ea (g4.append rl);exact ⟨a,b,xs,zs,rfl,rfl,g3,rb.b,by rw [g4.length,rl.length];exact hz',post σ _ F1 (st.trans o2) o1⟩
           . cases ev
     | _=>cases ev
theorem wA (C:Cok X c cx k) (hx:eZ c i x = true) (hy:ckE c e y = true) (n:(!bL e) = true) (nc:(!kB y) = true) (hz:ckE c j z = true) (nj:(!bL j) = true) (he:PE X y (tE X.K cx e)) (hj:PE X z (tE X.K cx j)) :
 PS X (.Assign [.Subscript (.Name x p1) z p2] y pos) (tS X.K (evS cx (.setix i j e))):=by
 obtain ⟨n1,n2,n3,n4⟩:=C.name hx;have nc':kB y = false:=by simpa using nc
 have hh:=bX hz;have hh2:=bX hy
 have ha:∀ v,assign (.Subscript (.Name x p1) z p2) X.env v = (do
  let ov <- holding [v] (eval (.Name x p1) X.env)
  let iv <- holding [v,ov] (eval z X.env)
  standAt p2
  holding [v,ov,iv] (setItem ov iv v)
  release [v,ov,iv] []):=by
  intro v;cases z<;>first | rfl | (exact absurd hh aq)
 have hsw:swapsWithSole [.Subscript (.Name x p1) z p2] y pos.line X.env = pure false:=by
  cases y<;>first | rfl | (exact absurd hh2 aq) | (exact absurd nc'.symm aq)
 have hw:swappedStores [.Subscript (.Name x p1) z p2] y X.env = pure none:=by
  cases y<;>first | rfl | (exact absurd hh2 aq)
 refine PS.imp (CY he (Jz (jK n1 n2 n3 n4) hj set_list ha) hsw hw rfl) fun E σ H zz=>?_;obtain ⟨G,F,δ,out,ok,ev,post⟩:=zz;simp only [evS,ag,ae] at ev;obtain ⟨⟨d,δ1⟩,e1,ev⟩:=ev;dsimp only at ev;refine ⟨G,F,δ,d,δ1,ok,e1,fun v H1 F1 st1 sm1 ok1 r1=>?_⟩
 cases q1:δ1[i]? with
 | none=>rw [q1] at ev;cases ev
 | some s1 =>
   rw [q1] at ev
   cases s1 with
   | no=>cases ev
   | fnc _ _=>cases ev
   | val _=>cases ev
   | own ds0 =>
     obtain ⟨a,xs0,ea,f1,f2,f3,f4⟩:=ok1.sl i _ q1;simp only [ae] at ev;obtain ⟨⟨dj,δ2⟩,e2,ev⟩:=ev;refine ⟨.ref a,ea,G,F1,δ1,dj,δ2,ok1,e2,fun w H2 F2 st2 sm2 ok2 r2=>?_⟩
     cases dj with
     | int m =>
       have:=r2.b.int;subst this;dsimp only at ev
       cases q2:δ2[i]? with
       | none=>rw [q2] at ev;cases ev
       | some s2 =>
         rw [q2] at ev
         cases s2 with
         | no=>cases ev
         | fnc _ _=>cases ev
         | val _=>cases ev
         | own ds =>
           dsimp only at ev;obtain ⟨a',xs,ea',g1,g2,g3,g4⟩:=ok2.sl i _ q2;rw [ea] at ea';cases ea'
           cases q3:ixN ds.length m with
           | none=>rw [q3] at ev;cases ev
           | some mm =>
             rw [q3] at ev;cases ev;have rv:=Rel.step ok1.fd st2 d v (en n r1);obtain ⟨o1,o2⟩:=ok2.write q2 ea (aG.set rv mm g4)
             exact ⟨a,xs,m,mm,rfl,rfl,g3,by rw [g4.length];exact q3,post σ _ F2 ((st1.trans st2).trans o2) o1⟩
     | _=>cases ev
theorem Cv:PS X x (tS X.K (evS cx .bad)):=fun pins s σ H D I h=>by
 obtain ⟨G,F,δ,out,ok,ev,post⟩:=h;have ev:none = some out:=ev;cases ev
theorem Nr (hm:newOk e = true) (C:Cok X c cx k) (h:ckE c e y = true):PE X y (tN X.K cx e):=by
 unfold newOk at hm;split at hm
 . obtain ⟨_,_,rfl,hh⟩:=qa h;rw [aa] at hh;exact Cy hh.2 (fR _ X c _ C hh.1 (gy hh.2))
 . rename_i es;obtain ⟨_,_,xs,_,rfl,hh⟩:=gu h;simp only [aa] at hh;obtain ⟨⟨h1,h2⟩,h3⟩:=hh;have e1:=of_decide_eq_true h1;subst e1;have h3:(!xs.isEmpty && gc c es xs && nD es) = true:=h3;simp only [aa] at h3
   cases xs with
   | nil=>simp at h3
   | cons y ys=>exact zY C h2 (fR _ X c _ C h3.1.2 h3.2) h3.1.2
 . obtain ⟨_,_,_,rfl,hh⟩:=jq h;obtain ⟨_,_,o,_,rfl,h9⟩:=sP hh;simp only [aa] at h9;obtain ⟨h0,⟨⟨h1,h2⟩,h3⟩,h4⟩:=h9;obtain rfl:=cO.mp h0;exact FU (by simpa using h4) (dq _ X c _ C h1) (Cw _ X c _ C h2) (Cw _ X c _ C h3)
 . cases hm
end
section
variable {X:Cx} {c:Ck} {cx:Cl} {k:Nat}
theorem zX (C:Cok X c cx k) (hS:X.env.scope = c.sc) (hB:X.env.blockKind = .function) (ho:(!own) = true)
 (hn:jM c i t = true) (h:ckE c (.comp kk tg src ifs elt) (.ListComp ex gs sc p) = true) (hl:c.sc.names.lookup t = some .cell) (he:PE X (.ListComp ex gs sc p) (tE X.K cx (.comp kk tg src ifs elt))) :
 PS X (.Assign [.Name t tp] (.ListComp ex gs sc p) sp) (tS X.K (evS cx (.cmp own i (.comp kk tg src ifs elt)))):=by
 have hs:swapsWithSole [.Name t tp] (.ListComp ex gs sc p) sp.line X.env = pure false:=by
  have e1:X.env.kindOf t = some .cell:=by
   show X.env.scope.names.lookup t = some .cell;rw [hS];exact hl
  show (pure (X.env.blockKind == .function && X.env.kindOf t == some .local && tp.line == p.line && !(sc.names.any fun (n,k)=>n == t && (k == .local || k == .cell))):Sem Bool) = pure false;rw [hB,e1];congr 1
 have ht:nK c (.nm i) (.Name t tp) = true:=by
  unfold nK eJ;exact Bool.and_eq_true_iff.mpr ⟨rfl,hn⟩
 refine PS.imp (uM (tg:=.nm i) C (.inl rfl) ht h rfl hs he) fun D σ H hq=>?_;obtain ⟨G,F,δ,o,ok,ev,post⟩:=hq;refine ⟨G,F,δ,o,ok,?_,post⟩;obtain rfl:own = false:=by simpa using ho
 simp only [evS,ag,ae] at ev ⊢;obtain ⟨⟨d,δ1⟩,e1,ev⟩:=ev
 cases d with
 | lst ds =>
   dsimp only at ev;split at ev
   . rename_i hi;cases ev;refine ⟨_,e1,_,?_,rfl⟩;exact if_pos hi
   . cases ev
 | _=>cases ev
theorem Cu (C:Cok X c cx k) (hS:X.env.scope = c.sc) (hB:X.env.blockKind = .function)
 (hn:jM c i t = true) (h:ckE c (.comp kk tg src ifs elt) (.ListComp ex gs sc p) = true) (hl:c.sc.names.lookup t = some .local) (hp:tp.line = p.line) (hz:(!(sc.names.any fun (n,k)=>n == t && (k == .local || k == .cell))) = true) :
 PS X (.Assign [.Name t tp] (.ListComp ex gs sc p) sp) (tS X.K (evS cx (.cmp own i (.comp kk tg src ifs elt)))):=by
 obtain ⟨n1,n2,n3⟩:=C.to hn;obtain ⟨_,_,_,_,e,hh⟩:=oU h;cases e;obtain ⟨_,rfl,h9⟩:=fx hh;obtain ⟨tgt,it,il,rfl,h10⟩:=sR h9;replace h:=h10
 . split at h
   . rename_i ts ht;simp only [aa] at h;obtain ⟨⟨⟨⟨⟨⟨⟨⟨h1,h2⟩,h3⟩,h4⟩,h5⟩,h6⟩,h7⟩,h8⟩,h9⟩:=h;obtain ⟨nd,hvis⟩:=jr h4;have hk:=kr (tg:=tg) (c:=c) (of_decide_eq_true h1)
     have hsw:swapsWith (.ListComp ex [⟨tgt,it,il,0⟩] sc p) (some (.Name t tp)) sp.line X.env = pure true:=by
      have e1:X.env.kindOf t = some .local:=by
       show X.env.scope.names.lookup t = some .local;rw [hS];exact hl
      show (pure (X.env.blockKind == .function && X.env.kindOf t == some .local && tp.line == p.line && !(sc.names.any fun (n,k)=>n == t && (k == .local || k == .cell))):Sem Bool) = pure true;rw [hB,e1,hp,hz];congr 1;simp
     intro pins s σ H E I hq
     refine CV (Nc:=js ts c.N++ts) (te:=tE X.K cx elt) (tt:=tG X.K cx ifs) (g:=gTg X.K tg) C.xe C.calm (mh C h3) (fun i x hi=>by rw [C.hN] at hi ⊢;exact hvis i x hi) (by rw [C.hN,hk];lia) (Cz src X c _ _ C h6)
      (fun cl Ca s H fp=>lH (dR C h3 nd cl Ca s H fp) h5) (fun cl Ca s H fp=>Jb ifs _ _ _ (dR C h3 nd cl Ca s H fp) h7) (fun cl Ca s H fp=>dq elt _ _ _ (dR C h3 nd cl Ca s H fp) h8) (fun v=>mL h6 _ v)
      C.nd' n1 n2 n3 hsw pins s σ H E I ?_
     obtain ⟨G,F,δ,o,ok,ev,post⟩:=hq;simp only [evS,ag,ae] at ev;obtain ⟨⟨d,δ1⟩,e1,ev⟩:=ev
     cases d with
     | lst ds =>
       dsimp only at ev;split at ev
       . rename_i hi;cases ev;refine vz C I h9 hk h2 ok e1 fun p ys xs H1 F1 H2 F2 e st1 st2 hp hg ok2 eD rl sm=>?_;cases e;show E.nx (σ.set i (some (.ref p))) H2
         cases own with
         | true =>
           refine post _ H2 F2 (st1.trans st2) ((ok2.keep).own hi (ok2.rf p (.inr rfl)) hg eD rl fun j s ej ho z=>?_);obtain ⟨a,u,d,e2,_,g2,_⟩:=ft.ow (ok2.sl j _ ej) ho;rw [z] at e2;cases e2
           exact g2.2 (.inr rfl)
         | false =>
           have st':Step G F1 H1 (fun b=>F2 b/\b≠p) H2:=⟨st2.keep,fun b z=>st2.grow b z.1,fun b o r f e=>by
            obtain ⟨a1,a2⟩:=st2.res b o r f e;exact ⟨⟨a1,fun w=>by rw [w,hp] at e;cases e⟩,a2⟩,st2.tb⟩
           refine post _ H2 _ (st1.trans st') ((ok2.leave hg).set hi ?_);unfold Rel;exact ⟨p,xs,rfl,.inl ⟨.inl eD,fun z=>z.2 rfl⟩,aG.less ok2.fd (fun b z=>z.1) rl⟩
       . cases ev
     | _=>cases ev
   . cases h
end
section
variable {X:Cx} {c:Ck} {cx:Cl} {k:Nat} (C:Cok X c cx k) (hS:X.env.scope = c.sc) (hB:X.env.blockKind = .function)
include C hS hB
mutual
theorem Nq:∀ (s:S) (x:cY),ckS c s x = true->PS X x (tS X.K (evS cx s))
 | .asg tg e,x,h=>by
   obtain ⟨_,_,_,rfl,hq1⟩:=mx h;obtain ⟨_,rfl,hq2⟩:=fx hq1;replace h:=hq2
   . simp only [aa] at h;obtain ⟨⟨⟨⟨h1,h2⟩,h3⟩,h4⟩,h5⟩:=h;rw [cw,cw] at h5;rcases h5 with h5 | h5
     . exact uM C (h5.imp id (zM hS)) h1 h2 h3 (qi (bX h2) (by simpa using h4) _ _ _) (dq e X c _ C h2)
     . unfold HK at h5;split at h5
       . exact Cq C hS hB h5 fun a b q n=>fR _ X c _ C q (gy n)
       . cases h5
 | .new i e,x,h=>by
   obtain ⟨_,_,_,rfl,hq1⟩:=mx h;obtain ⟨_,rfl,hq2⟩:=fx hq1;obtain ⟨_,_,rfl,hq3⟩:=cy hq2;replace h:=hq3
   . simp only [aa] at h;obtain ⟨⟨⟨h1,h2⟩,h3⟩,h4⟩:=h
     exact Cr C h1 h2 h3 (Nr h4 C h2)
 | .cmp own i e,x,h=>by
   have h:(DU e && _) = true:=h;rw [aa] at h;obtain ⟨h0,h⟩:=h;cases e<;>first | (cases h0;done) | skip
   obtain ⟨_,_,_,rfl,hh⟩:=mx h;obtain ⟨_,rfl,h2⟩:=fx hh;obtain ⟨_,_,rfl,h3⟩:=mv h2;obtain ⟨_,_,_,_,rfl,h4⟩:=oU h3;simp only [aa] at h4;obtain ⟨⟨a1,a2⟩,a3⟩:=h4;rcases AU.mp a3 with a3 | a3
   . simp only [aa] at a3;exact Cu C hS hB a1 a2 (of_decide_eq_true a3.1.1) (of_decide_eq_true a3.1.2) a3.2
   . rw [aa] at a3
     exact zX C hS hB a3.1 a1 a2 (of_decide_eq_true a3.2) (dq _ X c _ C a2)
 | .ret e,x,h=>by
   obtain ⟨_,_,rfl,hq1⟩:=Dq h;obtain ⟨_,rfl,hq2⟩:=Ds hq1;replace h:=hq2
   . rw [aa] at h
     exact Cp h.2 (dq e X c _ C h.1)
 | .retL _ _ _ _,x,h=>by
   cases h
 | .ifs t a b,x,h=>by
   obtain ⟨_,_,_,_,rfl,hq1⟩:=Du h;replace h:=hq1
   . simp only [aa] at h
     exact Cs (oA t X c _ C h.1.1) (qX a _ h.1.2) (qX b _ h.2)
 | .for_ tg src body,x,h=>by
   obtain ⟨_,_,_,_,_,rfl,hq1⟩:=uZ h;obtain ⟨rfl,hq2⟩:=fy hq1;replace h:=hq2
   . simp only [aa] at h
     exact Ct C h.1.1 (Cz src X c _ _ C h.1.2) (fun v=>mL h.1.2 _ v) (qX body _ h.2)
 | .forZ tg es body,x,h=>by
   obtain ⟨t,it,ys,z,p,rfl,h1⟩:=uZ h;obtain ⟨rfl,h2⟩:=fy h1;obtain ⟨n,np,xs,cp,rfl,h3⟩:=gu h2;obtain ⟨u,v,rfl,h4⟩:=nB h3;simp only [aa] at h4;obtain ⟨⟨⟨⟨⟨⟨a1,a2⟩,a3⟩,a4⟩,a5⟩,a6⟩,a7⟩:=h4;have e:=of_decide_eq_true a2;subst e
   exact zW C a1 a4 (C.global a3).1 (C.blt _ (by decide +kernel)) (fR es X c _ C a5 (gy a6)) a5 a6 (qX body _ a7)
 | .append i e,x,h=>by
   obtain ⟨_,_,rfl,hh⟩:=yt h;obtain ⟨_,_,_,_,_,rfl,hln,h2⟩:=sQ hh;obtain ⟨_,_,rfl,h3⟩:=cy h2;obtain ⟨_,rfl,h4⟩:=fx h3;simp only [aa] at h4;obtain ⟨⟨⟨a1,a2⟩,a3⟩,a4⟩:=h4;have z:=of_decide_eq_true a1;subst z
   exact uN C a2 hln a3 a4 (dq e X c _ C a3)
 | .extend i e,x,h=>by
   obtain ⟨_,_,rfl,hh⟩:=yt h;obtain ⟨_,_,_,_,_,rfl,hln,h2⟩:=sQ hh;obtain ⟨_,_,rfl,h3⟩:=cy h2;obtain ⟨_,rfl,h4⟩:=fx h3;simp only [aa] at h4;obtain ⟨⟨⟨a1,a2⟩,a3⟩,a4⟩:=h4;have z:=of_decide_eq_true a1;subst z
   exact uL C a2 hln a3 a4 (dq e X c _ C a3)
 | .setix i j e,x,h=>by
   obtain ⟨_,_,_,rfl,hq1⟩:=mx h;obtain ⟨_,rfl,hq2⟩:=fx hq1;obtain ⟨_,_,_,rfl,hq3⟩:=jq hq2;obtain ⟨_,_,rfl,hq4⟩:=cy hq3;replace h:=hq4
   . simp only [aa] at h;obtain ⟨⟨⟨⟨⟨h1,h2⟩,h3⟩,h4⟩,h5⟩,h6⟩:=h
     exact wA C h1 h2 h3 h4 h5 h6 (dq e X c _ C h2) (dq j X c _ C h5)
 | .bad,x,h=>Cv
theorem qX:∀ (ss:Ss) (xs:List cY),vD c ss xs = true->PSs X xs (tS X.K (dH cx ss))
 | .nil,xs,h=>by
   obtain ⟨rfl,hq1⟩:=fy h;replace h:=hq1
   . exact uK
 | .cons s ss,xs,h=>by
   obtain ⟨_,_,rfl,hq1⟩:=eu h;replace h:=hq1
   . rw [aa] at h;exact qY (Nq s _ h.1) (qX ss _ h.2)
end
end
structure Mk (X:Cx) (P:av) (q:Str):Prop where
 cd:∃ c,X.env.code = .ref c/\PySem.W.CodeHd X.base c P
 ql:X.env.qual++"<lambda>" = q
 tb:(P,q)∈Tbs.ts
 un:∀ t∈Tbs.ts,t.1 = P->t.2 = q
 bm:∃ bm ob,X.mg "__builtins__" = some (.ref bm)/\bm≠builtinsNs/\X.base.get? bm = some ob/\ob.cls = .type "module"/\ob.dict = some builtinsNs/\ob.data = .plain
theorem xu (l:List af) (h:TriplesOk l) (e:codeAmong p (l++[rawInt a,rawInt b,c]) = some v):codeAmong p l = some v\/v = c:=by
 fun_induction TriplesOk l with
 | case1 =>
   simp only [cQ,codeAmong,rawInt] at e;split at e
   . cases e;exact .inr rfl
   . cases e
 | case2 a' t b' u x rest ih =>
   simp only [fH,codeAmong] at e ⊢;split at e
   . rename_i hc;rw [if_pos hc];exact .inl e
   . rename_i hc;rw [if_neg hc];exact ih h e
 | case3 l h1 h2=>exact h.elim
theorem Ec (g:h.get? a = some o):ff P w H h a (fzO a o):=⟨g,g,⟨o,g⟩,fun h1 h2 e1 k=>k _ e1⟩
section
variable {X:Cx} {cx:Cl} {k:Nat}
theorem MA (I:Inv X pins σ H s) (M:Mk X P q) (tabs:gU H) (hcl:closureFor scope X.env = pure clos) (hdef:defaultsOf params X.env = ([],[]))
 (h:∀ (f c':av) (oc:Obj) (vs:Array af) (tk:Tok) (pm ctv:af) (H':Hp),Sim H H'->gU H'->Fz H' f (PySem.W.kla_obj "<lambda>" q params body scope clos pm c' ctv)->Fz H' c' oc->oc.data = .fields vs->vs[1]? = some (.str q tk)->Q (.ref f) H') :
 wpAny (model X.prog X.w) X.A (eval (.Lambda params body scope pos) X.env) (EP X pins σ Q) X.xe s:=by
 refine PySem.W.kla_eval hdef ?_;rw [M.ql];obtain ⟨ps,hP,tr,am⟩:=tabs _ M.tb;dsimp only at hP am;obtain ⟨c,hcode,CH⟩:=M.cd;obtain ⟨bm,ob,b1,b2,b3,b4,b5,b6⟩:=M.bm;have hg:s.heap.Ns mainGlobals X.mg:=I.mod.glob.keeps I.bk;have hPh:s.heap.get? P = some (PySem.W.tabObj ps):=I.hok P _ hP
 have hgP:mainGlobals≠P:=fun z=>by
  obtain ⟨o,es,ep,e,hd,_⟩:=hg;rw [z,hPh] at e;cases e;cases hd
 have hbP:bm≠P:=fun z=>by
  have:=(I.bs _ _ b3).2;rw [z,hP] at this;cases this
 have hbG:bm≠mainGlobals:=fun z=>by
  obtain ⟨o,es,ep,e,hd,_⟩:=hg;have:=I.bk _ _ b3;rw [z,e] at this;cases this;rw [hd] at b6;cases b6
 have BA:s.heap.BuiltinsAt X.mg P:=⟨bm,ob,b1,b2,hbG,hbP,I.bk _ _ b3,b4,b5,b6⟩
 cases ca:codeAmong pos ps.toList with
 | some cv =>
   refine PySem.W.kla_makeFunctionHit (mg:=X.mg) hcl I.ok.glob hg hcode (CH.keeps I.bk) hPh tr ca BA fun ctv h' tk hk hsz=>?_;obtain ⟨c',oc,vs,t,rfl,fc,hd,hv⟩:=am pos cv ca;have hn:H h'.objs.size = none:=I.hok.fresh hsz;have sm:=bV hn (fzO h'.objs.size (PySem.W.kla_obj "<lambda>" q params body scope clos ((X.mg "__name__").getD .none) c' ctv));refine ⟨.ref h'.objs.size,_,I.laid (t':=tk) (fun b u e=>ah _ (hk b u e)) hsz (Ec (aF _ rfl)),rfl,?_⟩
   exact h _ c' oc vs t _ ctv _ (.of sm) (tabs.keep fun b o _ e=>sm b o e) bP (sm _ _ fc) hd hv
 | none =>
   refine PySem.W.kla_makeFunction (mg:=X.mg) hcl I.ok.glob hg hcode (CH.keeps I.bk) hPh tr ca hgP BA fun c' ctv h' tk hx hge hlt hrec htb=>?_;obtain ⟨c₂,oc,vs,t,e2,hoc,hd,hv⟩:=hrec;cases e2;generalize ho:PySem.W.kla_obj "<lambda>" q params body scope clos ((X.mg "__name__").getD .none) c' ctv = fo at *;have hfl:s.heap.objs.size<=h'.objs.size:=iR (dt hge hlt);have nc:H c' = none:=I.hok.fresh hge;have nf:H h'.objs.size = none:=I.hok.fresh hfl;have cP:c'≠P:=fun z=>by rw [z,hP] at nc;cases nc
   have fP:h'.objs.size≠P:=fun z=>by rw [z,hP] at nf;cases nf
   have cf:c'≠h'.objs.size:=aJ hlt
   let H1:=upd H P (.tbl (ps ++ #[rawInt pos.line,rawInt pos.col,.ref c']))
   let H2:=upd H1 c' (fzO c' oc)
   let H3:=upd H2 h'.objs.size (fzO h'.objs.size fo)
   have at3:∀ b,b≠P->b≠c'->b≠h'.objs.size->H3 b = H b:=fun b x y z=>by
    show upd H2 _ _ b = _;rw [bq z];show upd H1 _ _ b = _;rw [bq y];show upd H _ _ b = _;rw [bq x]
   have atf:H3 h'.objs.size = some (fzO h'.objs.size fo):=bP
   have atc:H3 c' = some (fzO c' oc):=by
    show upd H2 _ _ c' = _;rw [bq cf];exact bP
   have atP:H3 P = some (.tbl (ps ++ #[rawInt pos.line,rawInt pos.col,.ref c'])):=by
    show upd H2 _ _ P = _;rw [bq (Ne.symm fP)];show upd H1 _ _ P = _;rw [bq (Ne.symm cP)];exact bP
   have atO:∀ b o,b≠P->H b = some o->H3 b = some o:=fun b o n e=>by
    rw [at3 b n (fun z=>by rw [z,nc] at e;cases e) (fun z=>by rw [z,nf] at e;cases e)];exact e
   have nt3:∀ b o,(∀ qs,o≠.tbl qs)->H b = some o->H3 b = some o:=fun b o n e=>atO b o (fun z=>by rw [z,hP] at e;cases e;exact n _ rfl) e;have kh:∀ b o,b≠P->s.heap.get? b = some o->(h'.push fo).get? b = some o:=fun b o n e=>ah _ (hx b o n e);have gP:(h'.push fo).get? P = some (PySem.W.tabObj (ps ++ #[rawInt pos.line,rawInt pos.col,.ref c'])):=ah _ htb
   have hok3:HOk X.prog X.w H3 (h'.push fo):=fun b u e=>by
    by_cases hf:b = h'.objs.size
    . subst hf;rw [atf] at e;cases e;exact Ec (aF _ (by rw [<- ho];rfl))
    . by_cases hc:b = c'
      . subst hc;rw [atc] at e;cases e;exact Ec (ah _ hoc)
      . by_cases hp:b = P
        . subst hp;rw [atP] at e;cases e;exact gP
        . rw [at3 b hp hc hf] at e;refine (I.hok b u e).stay (fun b' u' z g=>kh b' u' ?_ g) (fun b' z=>nt3 b' _ (fun qs w=>by cases w) z) fun b' xs z=>nt3 b' _ (fun qs w=>by cases w) z;rcases z with z | z
          . rw [z];exact hp
          . rintro rfl;rw [hP] at z;cases z
   have un3:Un X.fs [] H H3 s.heap (h'.push fo):=⟨fun b o e n _ _=>kh b o (fun z=>by rw [z,hP] at n;cases n) e,fun b o e n _ _=>⟨o.slots,kh b o (fun z=>by rw [z,hP] at n;cases n) e⟩,
    fun b o e n _=>by
     rw [at3 b (fun z=>by rw [z,hP] at n;cases n) (aJ (aS (aA e) hge)) (aJ (aS (aA e) hfl))];exact n,
    fun b o e _=>by
     by_cases hp:b = P
     . exact ⟨_,hp▸gP⟩
     . exact ⟨o,kh b o hp e⟩,
    fun b xs e=>nt3 b _ (fun qs w=>by cases w) e,fun b o u e=>nt3 b _ (fun qs w=>by cases w) e,
    fun b qs e=>by
     by_cases hp:b = P
     . subst hp;rw [hP] at e;cases e;exact ⟨_,atP⟩
     . exact ⟨#[],by rw [atO b _ hp e];simp⟩⟩
   refine ⟨.ref h'.objs.size,H3,I.un (t':=tk) un3 hok3,rfl,?_⟩;refine h _ c' oc vs t _ ctv H3 ⟨fun b o n e=>nt3 b o (fun qs w=>by rw [w] at n;exact n) e,fun b qs e=>?_⟩ (fun t' ht=>?_) (by rw [ho];exact atf) atc hd hv
   . by_cases hp:b = P
     . exact ⟨_,hp▸atP⟩
     . exact ⟨qs,atO b _ hp e⟩
   . have fzk:∀ a o,Fz H a o->Fz H3 a o:=fun a o z=>nt3 a _ (fun qs w=>by cases w) z;by_cases hp:t'.1 = P
     . have:=M.un t' ht hp;refine ⟨_,by rw [hp];exact atP,by simpa using TriplesOk_snoc pos.line pos.col (.ref c') _ tr,fun p cv e=>?_⟩;rw [zk] at e;rcases xu _ tr e with z | z
       . obtain ⟨c₁,o₁,v₁,t₁,z1,z2,z3,z4⟩:=am p cv z;exact ⟨c₁,o₁,v₁,t₁,z1,fzk _ _ z2,z3,by rw [this];exact z4⟩
       . exact ⟨c',oc,vs,t,z,atc,hd,by rw [this];exact hv⟩
     . obtain ⟨qs,a1,a2,a3⟩:=tabs t' ht;refine ⟨qs,atO _ _ hp a1,a2,fun p cv e=>?_⟩;obtain ⟨c₁,o₁,v₁,t₁,z1,z2,z3⟩:=a3 p cv e;exact ⟨c₁,o₁,v₁,t₁,z1,fzk _ _ z2,z3⟩
end
section
variable {K:PySem.W.Frag} {H H':Hp} {h:bJ} {F:av->Prop} {cs:List (av × Obj)}
theorem Un0.same (u:Un0 H h cs):iO H (kl H cs):=fun b o e=>yX u e
theorem FV (u:Un0 H h cs) (s:Sim (kl H cs) H'):Sim H (gQ H' cs):=by
 have out:∀ b o,H b = some o->cs.lookup b = none:=fun b o e=>by
  cases q:cs.lookup b with
  | none=>rfl
  | some x=>rw [(u b x q).1] at e;cases e
 exact ⟨fun b o n e=>by rw [cI (out b o e)];exact s.nt b o n (u.same b o e),fun b ps e=>by
  obtain ⟨qs,z⟩:=s.tb b ps (u.same b _ e);exact ⟨qs,by rw [cI (out b _ e)];exact z⟩⟩
theorem Ky (z:Fz0 H cs) (hc:∀ b o,cs.lookup b = some o->∃ v,o.data = .cell v) (e:Fz H a o) (n:∀ v,o.data≠.cell v):Fz (gQ H cs) a o:=by
 cases q:cs.lookup a with
 | none=>unfold Fz;rw [cI q];exact e
 | some x =>
   have y:=z a x q;unfold Fz at e;rw [e] at y;unfold fzO at y;cases y;obtain ⟨v,d⟩:=hc a o q;exact absurd d (n v)
theorem uE (t:gU H) (z:Fz0 H cs) (hc:∀ b o,cs.lookup b = some o->∃ v,o.data = .cell v):gU (gQ H cs):=fun y hy=>by
 obtain ⟨ps,h1,h2,h3⟩:=t y hy;refine ⟨ps,?_,h2,fun pos cv e=>?_⟩
 . cases q:cs.lookup y.1 with
   | none=>rw [cI q];exact h1
   | some x =>
     have:=z _ x q;rw [h1] at this;cases this
 . obtain ⟨c,o,vs,tk,e1,e2,e3,e4⟩:=h3 pos cv e;exact ⟨c,o,vs,tk,e1,Ky z hc e2 (fun v w=>by rw [e3] at w;cases w),e3,e4⟩
theorem FC (z:Fz0 H cs) (h:SqT K H a xs):SqT K (gQ H cs) a xs:=by
 rcases h with h | h
 . left
   cases q:cs.lookup a with
   | none =>
     rcases h with h | ⟨o,h⟩
     . exact .inl (by rw [cI q];exact h)
     . exact .inr ⟨o,by rw [cI q];exact h⟩
   | some x =>
     have y:=z a x q;rcases h with h | ⟨o,h⟩
     . rw [h] at y;cases y
     . rw [h] at y;cases y
 . exact .inr h
mutual
theorem xZ (z:Fz0 H cs):∀ (d:D) (v:V),lf d = true->Rel K H F d v->Rel K (gQ H cs) F d v
 | .non,v,_,h=>by unfold Rel at h ⊢;exact h
 | .bl b,v,_,h=>by unfold Rel at h ⊢;exact h
 | .int i,v,_,h=>by unfold Rel at h ⊢;exact h
 | .str x,v,_,h=>by unfold Rel at h ⊢;exact h
 | .lst ds,v,l,h=>by unfold lf at l;cases l
 | .tup ds,v,l,h=>by
   unfold lf at l;unfold Rel at h ⊢;obtain ⟨a,xs,e,h1,h3⟩:=h
   exact ⟨a,xs,e,FC z h1,pP z ds xs l h3⟩
 | .fn _ _,v,l,h=>by unfold lf at l;cases l
theorem pP (z:Fz0 H cs):∀ (ds:List D) (xs:List V),lfL ds = true->aG K H F ds xs->aG K (gQ H cs) F ds xs
 | [],xs,_,h=>by unfold aG at h ⊢;exact h
 | d::ds,xs,l,h=>by
   unfold lfL at l;rw [aa] at l;unfold aG at h ⊢;obtain ⟨y,ys,e,h1,h2⟩:=h;exact ⟨y,ys,e,xZ z d y l.1 h1,pP z ds ys l.2 h2⟩
end
theorem lookup_mem:∀ {l:List (av × Obj)},l.lookup b = some o->(b,o)∈l
 | [],h=>by simp at h
 | (c,x)::l,h=>by
   rw [bT] at h
   cases q:(b == c) with
   | true =>
     rw [q] at h;cases h;rw [show b = c by simpa using q]
     exact ay
   | false =>
     rw [q] at h;exact au _ (lookup_mem h)
theorem lF:∀ {cells:List av} {os:List Obj} {p:av × Obj},cells.Nodup->p∈cells.zip os->(cells.zip os).lookup p.1 = some p.2
 | [],_,_,_,h=>by simp at h
 | _::_,[],_,_,h=>by simp at h
 | c::cells,o::os,p,n,h=>by
   rw [cD] at h ⊢;rcases aC.mp h with rfl | h
   . simp [List.lookup]
   . have hne:p.1≠c:=fun z=>(bZ.mp n).1 (by rw [<- z];exact (iu (a:=p.1) (b:=p.2) h).1);have:(p.1 == c) = false:=by simpa using hne
     rw [bT,this];exact lF (bZ.mp n).2 h
end
noncomputable def nO (X:Cx):List Nat->List Str->List av->Prop
 | [],ys,cs=>ys = []/\cs = []
 | i::r,ys,cs=>∃ y ys' c cs',ys = y::ys'/\cs = c::cs'/\X.N[i]? = some y/\X.env.kindOf y = some .cell/\X.env.cells.lookup y = some c/\nO X r ys' cs'
section
variable {X:Cx} {cx:Cl} {k:Nat}
theorem Ef {K:PySem.W.Frag} {H:Hp} {F:av->Prop} {d:D} {v:V} (f:flat d = true) (r:Rel K H F d v):v = flV d:=by
 cases d<;>first | (unfold Rel at r;exact r) | (unfold flat at f;cases f)
theorem vF:∀ {caps:List Nat} {ys:List Str} {cells:List av},nO X caps ys cells->∀ c∈cells,∃ y∈ys,X.env.cells.lookup y = some c
 | [],ys,cells,h=>by obtain ⟨rfl,rfl⟩:=h;simp
 | i::r,ys,cells,h=>by
   obtain ⟨y,ys',c,cs',rfl,rfl,_,_,e,h⟩:=h;intro c' hc;rcases aC.mp hc with rfl | hc
   . exact ⟨y,ay,e⟩
   . obtain ⟨y',h1,h2⟩:=vF h c' hc;exact ⟨y',au _ h1,h2⟩
theorem lR (inj:∀ x y c,X.env.cells.lookup x = some c->X.env.cells.lookup y = some c->x = y):∀ {caps:List Nat} {ys:List Str} {cells:List av},nO X caps ys cells->ys.Nodup->cells.Nodup/\cells.length = ys.length
 | [],ys,cells,h,_=>by obtain ⟨rfl,rfl⟩:=h;simp
 | i::r,ys,cells,h,n=>by
   obtain ⟨y,ys',c,cs',rfl,rfl,_,_,e,h⟩:=h;obtain ⟨n1,n2⟩:=bZ.mp n;obtain ⟨a,b⟩:=lR inj h n2;refine ⟨bZ.mpr ⟨fun z=>?_,a⟩,by simp [b]⟩;obtain ⟨y',h1,h2⟩:=vF h c z;exact n1 (inj y y' c e h2▸h1)
theorem yR (I:Inv X pins σ H s) (ok:Ok X.K G F σ H δ):∀ {caps:List Nat} {ys:List Str} {cells:List av} {cs:List D},nO X caps ys cells->lA δ caps = some cs ->
 ∃ os:List Obj,os.length = cells.length/\(∀ p∈cells.zip os,H p.1 = none/\s.heap.get? p.1 = some p.2/\(∃ y,X.env.cells.lookup y = some p.1)/\∃ v,p.2.data = .cell v)/\∀ H':Hp,(∀ p∈cells.zip os,Fz H' p.1 p.2)->kH H' cells cs
 | [],ys,cells,cs,h,e=>by
   obtain ⟨rfl,rfl⟩:=h;unfold lA at e;cases e
   exact ⟨[],rfl,by simp,fun _ _=>rfl⟩
 | i::r,ys,cells,cs,h,e=>by
   obtain ⟨y,ys',c,cs',rfl,rfl,hN,hk,hc,h⟩:=h;unfold lA at e
   cases q:get δ i with
   | none=>rw [q] at e;cases e
   | some d =>
     rw [q] at e;dsimp only at e;split at e
     . rename_i hf;rw [aI] at e;obtain ⟨ds,e1,rfl⟩:=e;obtain ⟨os,l,a1,a2⟩:=yR I ok h e1;obtain ⟨v,ev,rb,_⟩:=ok.look q
       have rv:v = flV d:=by
        rcases rb with rb | ⟨_,_,_,z,_⟩
        . exact Ef hf rb
        . rw [z] at hf;cases hf
       subst rv;obtain ⟨m,hn,hl⟩:=I.loc;obtain ⟨u,ru,lk⟩:=hl i y _ hN ev (.inr (.inl hk));rcases lk with ⟨z,_⟩ | ⟨_,c',hc',o,ho,hd⟩
       . rw [hk] at z;cases z
       . rw [hc] at hc';cases hc';refine ⟨o::os,by simp [l],fun p hp=>?_,fun H' hz=>?_⟩
         . rw [cD] at hp;rcases aC.mp hp with rfl | hp
           . exact ⟨I.freeC y c hc,ho,⟨y,hc⟩,_,hd⟩
           . exact a1 p hp
         . exact ⟨d,ds,o,u,rfl,hf,hz (c,o) (by rw [cD];exact ay),hd,ru,a2 H' fun p hp=>hz p (by rw [cD];exact au _ hp)⟩
     . cases e
noncomputable def tLm (q:Str) (params:oy) (body:aE) (scope:dS) (clos:List (Str × av)):TE:=fun _ H Q=>gU H/\∀ (f c':av) (oc:Obj) (vs:Array af) (tk:Tok) (pm ctv:af) (H':Hp),Sim H H'->gU H'->Fz H' f (PySem.W.kla_obj "<lambda>" q params body scope clos pm c' ctv)->Fz H' c' oc->oc.data = .fields vs->vs[1]? = some (.str q tk)->Q (.ref f) H'
theorem Mi (M:Mk X P q) (hcl:closureFor scope X.env = pure clos) (hdef:defaultsOf params X.env = ([],[])):PE X (.Lambda params body scope pos) (tLm q params body scope clos) :=
 fun pins s σ H Q I ⟨t,h⟩=>MA I M t hcl hdef h
theorem FZ (e:evS cx (.retL f es n caps) δ = some o):∃ ds δ1 cs d,fW cx es δ = some (ds,δ1)/\lA δ1 caps = some cs/\cx.hf f = true/\cx.call f (ds++[.fn n cs]) = some d/\lf d = true/\o = .rt d δ1:=by
 simp only [evS,ag,ae] at e;obtain ⟨⟨ds,δ1⟩,e1,cs,e2,e⟩:=e;dsimp only at e e2;split at e
 . rename_i hf;rw [aI] at e;obtain ⟨r,er,e⟩:=e;unfold lfO at er;split at er
   . split at er
     . rename_i r' q hl;cases er;exact ⟨ds,δ1,cs,r,e1,e2,hf,q,hl,e.symm⟩
     . cases er
   . cases er
 . cases e
theorem Cd {c:Ck} (C:Cok X c cx k) {f n:Nat} {es:Es} {caps:List Nat} {x:Str} {y:aE} {ys:List aE} {ps:List Str} {P:av} {L:Lam} {cells:List av} {p lp pos rp:Pos} (hL:Tbs.lams.lookup n = some L) (M:Mk X P L.qual) (hcl:closureFor L.scope X.env = pure (L.caps.zip cells)) (hdef:defaultsOf L.params X.env = ([],[]))
 (hcp:nO X caps L.caps cells) (hnd:L.caps.Nodup) (hfn:∀ y,X.fn y = true) (n0:gL es = true) (ef:c.fns[f]? = some (x,ps)) (hg:fA c x = true)
 (hA:∀ z tz,PE X z tz->starEach [z] X.env = (false,eval z X.env)::starEach [] X.env->PA X (y::(ys++[z])) (wx X.K cx es tz)) (he:∀ z,starEach (y::(ys++[z])) X.env = (false,eval y X.env)::starEach (ys++[z]) X.env)
 (hpl:∀ z,starEach [z] X.env = (false,eval z X.env)::starEach [] X.env->(backTo pos (starEach (ys++[z]) X.env)).any (·.1) = false) :
 PS X (.Return (some (.Call (.Name x p) (y::(ys++[.Lambda L.params L.body L.scope lp])) [] pos)) rp) (tS X.K (evS cx (.retL f es n caps))):=by
 obtain ⟨g1,g2,g3⟩:=C.global hg;intro pins s σ H E I hq;obtain ⟨G,F,δ,o,ok,ev,post⟩:=hq;obtain ⟨ds,δ1,cs,d,ea,ec,hf,er,hl,rfl⟩:=FZ ev;refine Lo ?_;obtain ⟨a,fd,hm,hk,hb,fn⟩:=C.fnF f _ _ ef hf
 have fin:wpAny (model X.prog X.w) X.A (eval (.Call (.Name x p) (y::(ys++[.Lambda L.params L.body L.scope lp])) [] pos) X.env) (EP X pins σ fun v H'=>∃ F',Step G F H F' H'/\Ok X.K G F' σ H' δ1/\Rel X.K H' F' d v) X.xe s:=by
  refine gq (tu I g1 hm ?_ g2)
  refine PySem.W.callWith_K (h₀:=X.base) I.ok.mod.kin hk (thn (hA _ _ (Mi M hcl hdef) rfl pos pins s σ H (fun vs' H1=>∃ vs F1 fa c' oc ws tk pm ctv,vs' = vs++[.ref fa]/\Step G F H F1 H1/\Ok X.K G F1 σ H1 δ1/\aG X.K H1 F1 ds vs /\
   Fz H1 fa (PySem.W.kla_obj "<lambda>" L.qual L.params L.body L.scope (L.caps.zip cells) pm c' ctv)/\Fz H1 c' oc/\oc.data = .fields ws/\ws[1]? = some (.str L.qual tk)) I ⟨G,F,δ,ds,δ1,ok,ea,fun vs H1 F1 st1 sm1 ok1 r1=>⟨ok1.tabs,fun fa c' oc ws tk pm ctv H2 s2 t2 z1 z2 z3 z4=>?_⟩⟩) fun us s1 ⟨vs',H1,I1,r,q⟩=>⟨I1.kIn,?_⟩) (he _) (hpl _ rfl)
  . obtain ⟨ok2,st2⟩:=ok1.call s2 t2;exact ⟨vs,F1,fa,c',oc,ws,tk,pm,ctv,rfl,st1.trans st2,ok2,aG.step ok1.fd st2 ds vs (r1.rl n0),z1,z2,z3,z4⟩
  obtain ⟨vs,F1,fa,c',oc,ws,tk,pm,ctv,rfl,st,ok1,rl,z1,z2,z3,z4⟩:=q;obtain ⟨os,hol,a1,a2⟩:=yR I1 ok1 hcp ec;have nd:=(lR I1.ok.inj hcp hnd).1;have un0:Un0 H1 s1.heap (cells.zip os):=fun b o e=>⟨(a1 (b,o) (lookup_mem e)).1,(a1 (b,o) (lookup_mem e)).2.1⟩;have isc:∀ b o,(cells.zip os).lookup b = some o->∃ v,o.data = .cell v:=fun b o e=>(a1 (b,o) (lookup_mem e)).2.2.2
  have nfr:∀ b o,(cells.zip os).lookup b = some o->X.s₀.heap.objs.size<=b/\b∉frs X.stack:=fun b o e=>by
   obtain ⟨_,_,⟨w,hw⟩,_⟩:=a1 (b,o) (lookup_mem e);have hsz:=I1.ok.cab w b (hfn w) hw;refine ⟨hsz,fun z=>?_⟩;rcases aC.mp (I1.stkSub b z) with z | z
   . exact I1.cne w b hw z
   . obtain ⟨_,o',ho',_⟩:=I1.ok.funs.mem z;exact absurd (aS (aA ho') hsz) (cu _)
  have nb:∀ b o,(cells.zip os).lookup b = some o->X.base.get? b = none/\b∉frs X.stack:=fun b o e=>⟨zi (bc I1.ok.bsz (nfr b o e).1),(nfr b o e).2⟩;have sm1:=un0.same;have ok2:=ok1.same' sm1;have fv:FnV (kl H1 (cells.zip os)) n cs fa:=⟨L,pm,ctv,c',oc,ws,tk,cells,hL,sm1 _ _ z1,sm1 _ _ z2,z3,z4,nd,(lR I1.ok.inj hcp hnd).2,a2 _ fun p hp=>mP (lF nd hp)⟩
  have sp:zP X.K (cx.call f) (vs++[.ref fa]) (kl H1 (cells.zip os)) (fun v H'=>Sim (kl H1 (cells.zip os)) H'/\gU H'/\Rel X.K H' F1 d v) E0 :=
   ⟨F1,ds,vs,n,cs,fa,d,ok2.fd,ok2.tf,ok2.tabs,rfl,aG.step (G:=G) ok1.fd (Step.of_same sm1) ds vs rl,fv,er,fun v H' x1 x2 x3=>⟨x1,x2,x3⟩⟩
  have hl2:(us++([]:List af)).length = ps.length:=by rw [bS,<- r.length];exact fn.len _ _ _ _ sp
  have bb:=hb s1 us I1.kIn hl2;rw [bS] at bb;refine Le (lT (fn.run X.A X.stack s1 _ ⟨us,[]⟩ us _ _ E0 C.room (ug.add I1.env0 un0 nb) bb r sp) fun r s' hq=>?_)
  cases r with
  | error e=>exact hq.elim
  | ok fl =>
    cases fl with
    | next=>exact cB hq
    | brk=>exact cB hq
    | cont=>exact cB hq
    | ret u =>
      obtain ⟨v,H',I',rv,fz,x1,x2,x3⟩:=Inv.callF I1 un0 (fun b o e=>(nfr b o e).2) hq;obtain ⟨ok3,st3⟩:=ok1.call (FV un0 x1) (uE x2 fz isc);exact ⟨v,_,I',rv,F1,st.trans st3,ok3,xZ fz d v hl x3⟩
 exact thn fin fun u s1 ⟨v,H1,I1,rv,F1,st,ok1,rl⟩=>⟨v,σ,H1,I1,rv,post v σ H1 F1 st ok1 rl⟩
end
theorem pM {K:PySem.W.Frag} {H:Hp} {F:av->Prop} {ds:List D} {vs:List V} {N:List Str} (fd:FD F H) (tf:TF F) (tb:gU H) (r:aG K H F ds vs) (hl:vs.length<=N.length):Ok K ⟨H,fun b=>F b/\∃ o,H b = some o/\Mo o⟩ F (start N vs) H (init N.length ds):=by
 have hlen:=r.length
 have low:∀ (i:Nat) (s:Sl),(init N.length ds)[i]? = some s->s = .no\/∃ d,ds[i]? = some d/\s = .val d:=fun i s e=>by
  unfold init at e;by_cases hi:i < ds.length
  . rw [aW (by simpa using hi),bG,az hi] at e;cases e;exact .inr ⟨_,az hi,rfl⟩
  . rw [br (by simp;lia),di] at e;split at e
    . cases e;exact .inl rfl
    . cases e
 refine ⟨Sim.refl H,fd,fun b z=>z.1,fun b z=>z.2,tf,tb,?_,fun i s e=>?_,fun i j s t a e1 _ o1=>?_⟩
 . unfold init L2.start;simp only [aj,ao,du]
   lia
 . rcases low i s e with rfl | ⟨d,e1,rfl⟩
   . trivial
   . obtain ⟨v,hv,rv⟩:=r.get e1;refine ⟨v,?_,rv⟩;unfold L2.start;have hi:i < vs.length:=(aH.mp hv).1;rw [aW (by simpa using hi),bG,hv];rfl
 . rcases low i _ e1 with z | ⟨d,_,z⟩<;>(subst z;cases o1)
section
variable {P:aM} {w:bj} {H H':Hp} {h h':bJ} {cs:List (av × Obj)} {F:av->Prop}
theorem ju {b:av} (e:H b = none):gQ H cs b = none:=by
 cases q:cs.lookup b with
 | none=>rw [cI q];exact e
 | some o=>exact kU q
theorem Fz0.out (z:Fz0 H cs) (n:∀ o,H b≠some (fzO b o)):cs.lookup b = none:=by
 cases q:cs.lookup b with
 | none=>rfl
 | some o=>exact absurd (z b o q) (n o)
theorem Un.add (z:Fz0 H cs) (u:Un fs ex (gQ H cs) H' h h') (c:Un0 H' h' cs):Un fs ex H (kl H' cs) h h':=by
 have out:∀ {b},H b = none->cs.lookup b = none:=fun {b} e=>z.out fun o q=>by rw [e] at q;cases q
 refine ⟨fun b o e n hb hx=>u.keep b o e (ju n) hb hx,fun b o e n hb hx=>u.slot b o e (ju n) hb hx,fun b o e n hx=>?_,u.there,fun b xs e=>?_,fun b o y e=>?_,fun b ps e=>?_⟩
 . rw [dg (out n)];exact u.free b o e (ju n) hx
 . have q:=z.out (b:=b) fun o q=>by rw [e] at q;cases q
   rw [dg q];exact u.tups b xs (by rw [cI q];exact e)
 . cases q:cs.lookup b with
   | none=>rw [dg q];exact u.frzs b o y (by rw [cI q];exact e)
   | some o'=>rw [mP q,<- z b o' q];exact e
 . have q:=z.out (b:=b) fun o q=>by rw [e] at q;cases q
   obtain ⟨more,x⟩:=u.tbls b ps (by rw [cI q];exact e);exact ⟨more,by rw [dg q];exact x⟩
theorem FW (z:Fz0 H cs) (s:Sim (gQ H cs) H'):Sim H (kl H' cs):=by
 refine ⟨fun b o n e=>?_,fun b ps e=>?_⟩
 . cases q:cs.lookup b with
   | none=>rw [dg q];exact s.nt b o n (by rw [cI q];exact e)
   | some o'=>rw [mP q,<- z b o' q];exact e
 . have q:=z.out (b:=b) fun o q=>by rw [e] at q;cases q
   obtain ⟨qs,x⟩:=s.tb b ps (by rw [cI q];exact e);exact ⟨qs,by rw [dg q];exact x⟩
theorem FD.del (fd:FD F H) (z:Fz0 H cs):FD F (gQ H cs):=fun b hb=>by
 obtain ⟨u,e,m⟩:=fd b hb
 have nq:=z.out (b:=b) fun o q=>by
  rw [e] at q;cases q;rcases m with m | ⟨⟨ps,w⟩,_⟩
  . exact m
  . cases w
 exact ⟨u,by rw [cI nq];exact e,m⟩
theorem FD.sim (fd:FD F H) (s:Sim H H'):FD F H':=fun b hb=>by
 obtain ⟨u,e,m⟩:=fd b hb;rcases m with m | ⟨⟨ps,rfl⟩,t⟩
 . exact ⟨u,s.nt _ _ m.nt e,.inl m⟩
 . obtain ⟨qs,e⟩:=s.tb b ps e;exact ⟨_,e,.inr ⟨⟨qs,rfl⟩,t⟩⟩
end
theorem rJ {H:Hp}:∀ {cells:List av} {cs:List D},kH H cells cs->∃ os:List Obj,os.length = cells.length/\cells.length = cs.length/\(∀ p∈cells.zip os,Fz H p.1 p.2/\∃ v,p.2.data = .cell v) /\
 ∀ (j:Nat) (c:av) (d:D),cells[j]? = some c->cs[j]? = some d->∃ o u,Fz H c o/\o.data = .cell (some u)/\RelV (flV d) u/\flat d = true
 | [],cs,h=>by
   have h:cs = []:=h;subst h
   exact ⟨[],rfl,rfl,by simp,by simp⟩
 | c::r,cs,h=>by
   obtain ⟨d,ds',o,u,rfl,h1,h2,h3,h4,h5⟩:=h;obtain ⟨os,e1,e2,e3,e4⟩:=rJ h5;refine ⟨o::os,by simp [e1],by simp [e2],fun p hp=>?_,fun j c' d' q1 q2=>?_⟩
   . rw [cD] at hp;rcases aC.mp hp with rfl | hp
     . exact ⟨h2,_,h3⟩
     . exact e3 p hp
   . cases j with
     | zero=>cases q1;cases q2;exact ⟨o,u,h2,h3,h4,h1⟩
     | succ j=>exact e4 j c' d' (by simpa using q1) (by simpa using q2)
theorem Aw {K:PySem.W.Frag} {H:Hp} {F:av->Prop} {d:D} (f:flat d = true):Rel K H F d (flV d):=by
 cases d<;>first | (unfold Rel;rfl) | (unfold flat at f;cases f)
theorem lM {β:Type}:∀ {l:List (Str × β)} {x:Str} {v:β},(l.map (·.1)).Nodup->(x,v)∈l->l.lookup x = some v
 | [],_,_,_,h=>by simp at h
 | (y,u)::l,x,v,n,h=>by
   rw [aU] at n;rcases aC.mp h with e | h
   . cases e;simp [List.lookup]
   . have:x≠y:=fun z=>(bZ.mp n).1 (by rw [<- z];exact bx.mpr ⟨(x,v),h,rfl⟩);have e:(x == y) = false:=by simpa using this
     rw [bT,e];exact lM (bZ.mp n).2 h
theorem oM {α β:Type}:∀ {l:List α} {m:List β} {j:Nat} {x:α} {v:β},l[j]? = some x->m[j]? = some v->(x,v)∈l.zip m
 | [],_,_,_,_,h,_=>by simp at h
 | _::_,[],_,_,_,_,h=>by simp at h
 | a::l,b::m,0,x,v,h,h'=>by cases h;cases h';exact ay
 | a::l,b::m,j+1,x,v,h,h'=>au _ (oM (j:=j) (by simpa using h) (by simpa using h'))
theorem pC {α β:Type}:∀ {l:List α} {m:List β},l.length = m.length->(l.zip m).map (·.1) = l
 | [],_,_=>by simp
 | _::_,[],h=>by simp at h
 | a::l,b::m,h=>by simp [pC (l:=l) (m:=m) (by simpa using h)]
structure EL (L:Lam):Prop where
 kind:L.scope.kind = .function
 co:L.scope.isCoroutine = false
 gen:L.scope.isGenerator = false
 nocell:∀ x∈L.scope.names,x.2≠.cell
 ploc:∀ x∈L.ps,L.scope.names.lookup x = some .local
 cfree:∀ x∈L.caps,L.scope.names.lookup x = some .free
 frees:∀ x∈L.scope.names,x.2 = .free->x.1∈L.caps
 nd:(L.ps++L.caps).Nodup
 bd:∀ (cl:List (Str × av)) (pm cdv ct:af) (us:List af),us.length = L.ps.length->bindArgs (PySem.W.kla_fn "<lambda>" L.qual L.params L.body L.scope cl pm cdv ct) ⟨us,[]⟩ = pure (L.ps.zip us)
noncomputable def cxL (P:aM) (w:bj) (K:PySem.W.Frag) (mg:Str->Option af) (base:bJ) (L:Lam) (f:av) (cd:af) (cl:List (Str × av)) (A:ba) (outer:List Env) (s:ai) (H:Hp):Cx where
 prog:=P
 w:=w
 K:=K
 mg:=mg
 base:=base
 A:=A.deeper (PySem.W.envX L.qual L.scope s.heap.objs.size f cd cl)
 N:=L.ps++L.caps
 s₀:=s
 H₀:=H
 env:=PySem.W.envX L.qual L.scope s.heap.objs.size f cd cl
 outer:=outer
 stack:=PySem.W.envX L.qual L.scope s.heap.objs.size f cd cl::outer
 ex:=[]
 calm:=true
 fn:=fun _=>false
 pn:=[]
 xe:=fun _ _=>False
theorem Kk {P:aM} {w:bj} {K:PySem.W.Frag} {mg:Str->Option af} {base:bJ} {n k:Nat} {f:List D->Option D} {L:Lam} {cx:Cl} {e:E} (hL:Tbs.lams.lookup k = some L) (lo:EL L)
 (hE:∀ (a:av) (cd:af) (cl:List (Str × av)) (A:ba) (outer:List Env) (s:ai) (H:Hp),km n (A.deeper (PySem.W.envX L.qual L.scope s.heap.objs.size a cd cl))->PE (cxL P w K mg base L a cd cl A outer s H) L.body (tE K cx e))
 (np0:bL e = false) (hf:∀ ds d,f ds = some d->ds.length = (L.ps++L.caps).length/\∃ δ',evE cx e (init (L.ps++L.caps).length ds) = some (d,δ')):Hs P w K mg base (n+1) k f:=by
 intro A outer s H a us vs cs Q hr e0 rv fv hq;obtain ⟨L',pm,ctv,c',oc,ws,tk,cells,h1,fo,fc,hd,hv,cnd,clen,cv⟩:=fv;rw [hL] at h1;cases h1;obtain ⟨F,ds,d,fd,tf,tb,rl,lfl,er,lfd,post⟩:=hq;obtain ⟨os,e1,e2,e3,e4⟩:=rJ cv;obtain ⟨hlen,δ',ev⟩:=hf _ _ er;have lds:ds.length = L.ps.length:=by rw [aj,aj,<- e2,clen] at hlen;lia
 have lvs:vs.length = L.ps.length:=by rw [rl.length];exact lds
 have lus:us.length = L.ps.length:=by rw [<- rv.length];exact lvs
 have fz0:Fz0 H (cells.zip os):=fun b o q=>(e3 (b,o) (lookup_mem q)).1;have isc:∀ b o,(cells.zip os).lookup b = some o->∃ v,o.data = .cell v:=fun b o q=>(e3 (b,o) (lookup_mem q)).2;have hgo:∀ {b:av} {o:Obj},Fz H b o->s.heap.get? b = some o:=fun {b o} z=>(e0.hok b _ z).1;have ho:=hgo fo;have hcd:s.heap.CodeRec (.ref c') L.qual:=⟨c',oc,ws,tk,rfl,hgo fc,hd,hv⟩;have lim:s.heap.NoLimit:=e0.mod.nolimit.keeps fun b o e=>(e0.bs b o e).1;have ndp:L.ps.Nodup:=(jy.mp lo.nd).1;have ndc:L.caps.Nodup:=(jy.mp lo.nd).2.1;have hok0:=HOk.del e0.hok fz0;refine PySem.W.kla_callFunE hr.depth ho rfl lo.co lo.gen rfl hcd ?_;rw [lo.bd _ _ _ _ us lus];have hloc:∀ y∈L.ps.zip us,L.scope.names.lookup y.1 = some .local:=fun ⟨y,u⟩ hy=>lo.ploc y (iu hy).1;refine aw (iP lo.nocell hloc (fun h₁ hns hsb=>⟨lim.fresh _ hsb,?_⟩) lo.kind);show codeAny _ _ (.expr L.body (PySem.W.envX L.qual L.scope s.heap.objs.size a (.ref c') (L.caps.zip cells))) _ _;have hk₁:∀ b o,s.heap.get? b = some o->h₁.get? b = some o:=fun b o e=>hsb.extBut b o (aJ (aA e)) (ah _ e);have clk:∀ (j:Nat) (x:Str) (c:av),L.caps[j]? = some x->cells[j]? = some c->(L.caps.zip cells).lookup x = some c:=fun j x c q1 q2=>lM (by rw [pC clen.symm];exact ndc) (oM q1 q2)
 have cof:∀ x c,(L.caps.zip cells).lookup x = some c->∃ j,L.caps[j]? = some x/\cells[j]? = some c:=fun x c q=>by
  have hm:=PySem.mem_of_lookup q;obtain ⟨j,hj,ej⟩:=lD.mp hm;rw [List.getElem_zip] at ej;cases ej;rw [HD] at hj;exact ⟨j,az (by lia),az (by lia)⟩
 have cin:∀ (j:Nat) (c:av),cells[j]? = some c->∃ o u dd,cs[j]? = some dd/\Fz H c o/\o.data = .cell (some u)/\RelV (flV dd) u/\(cells.zip os).lookup c = some o:=fun j c q=>by
  have hj:j < cells.length:=(aH.mp q).1;have q2:cs[j]? = some cs[j]:=az (by lia);obtain ⟨o,u,z1,z2,z3,z4⟩:=e4 j c _ q q2;have q3:os[j]? = some os[j]:=az (by lia);have hm:=oM q q3;have z5:=lF cnd hm;have z6:=(e3 _ hm).1;unfold Fz at z6;dsimp only at z6 z5;have z1':=z1;unfold Fz at z1';rw [z6] at z1';injection z1' with z1';injection z1' with z1';exact ⟨o,u,_,q2,z1,z2,z3,by rw [z5,z1']⟩
 -- the frame
 have I:Inv (cxL P w K mg base L a (.ref c') (L.caps.zip cells) A outer s (gQ H (cells.zip os))) [] (L2.start (L.ps++L.caps) (vs++cs.map flV)) (gQ H (cells.zip os)) { s with heap:=h₁,toks:=s.toks+(L.ps.zip us).length }:=by
  have noA:∀ b:av,b∉(cxL P w K mg base L a (.ref c') (L.caps.zip cells) A outer s (gQ H (cells.zip os))).ex:=fun b z=>absurd (show b∈([]:List av) from z) (by simp)
  refine ⟨⟨e0.mod,lo.kind,rfl,rfl,aB _,fun x y c q1 q2=>?_,fun x hx=>?_,fun x c q=>(nomatch q),fun _=>hr.hd,vV e0.frames,.inr ⟨rfl,rfl⟩,fun b z=>absurd z (noA b),fun b o q=>⟨(e0.bs b o q).1,ju (e0.bs b o q).2⟩,e0.bsz,fun b _ _=>noA b,fun b z=>absurd z (noA b),e0.funs,fun b hb=>ju (e0.frf b hb)⟩,
   rfl,e0.bare,Un.kept hk₁,⟨_,hns,fun i x v q1 q2 q3=>?_⟩,fun x c q=>?_,hok0.fresh (aB _),fun x c q=>?_,fun p hp=>absurd (show p∈([]:List (av × Obj)) from hp) (by simp),hok0.kept hk₁,?_⟩
  . obtain ⟨i,a1,a2⟩:=cof x c q1;obtain ⟨j,b1,b2⟩:=cof y c q2
    have:i = j:=by
     obtain ⟨h1,h2⟩:=aH.mp a2;obtain ⟨h3,h4⟩:=aH.mp b2;exact (Fc cnd).mp (h2.trans h4.symm)
    subst this;rw [a1] at b1;cases b1;rfl
  . have hx:L.scope.names.lookup x = some .cell\/L.scope.names.lookup x = some .free:=hx;rcases hx with hx | hx
    . exact absurd rfl (lo.nocell _ (PySem.mem_of_lookup hx))
    . have hm:=lo.frees _ (PySem.mem_of_lookup hx) rfl;obtain ⟨j,hj,ej⟩:=lD.mp hm;dsimp only at ej;exact ⟨cells[j]'(by lia),clk j x _ (by rw [<- ej];exact az hj) (az (by lia))⟩
  . have hi:i < (vs++cs.map flV).length:=by
     unfold L2.start at q2;by_cases hi:i < (vs++cs.map flV).length
     . exact hi
     . rw [br (by rw [ao];lia),di] at q2;split at q2<;>cases q2
    have hv':(vs++cs.map flV)[i]? = some v:=by
     unfold L2.start at q2;rw [aW (by rw [ao];exact hi),bG] at q2
     cases e:(vs++cs.map flV)[i]? with
     | none=>rw [e] at q2;cases q2
     | some a=>rw [e] at q2;cases q2;rfl
    have q1:(L.ps++L.caps)[i]? = some x:=q1;by_cases hp:i < L.ps.length
    . rw [aW hp] at q1;rw [aW (by lia)] at hv';obtain ⟨u,hu,ru⟩:=rv.get hv';refine ⟨u,ru,.inl ⟨lo.ploc x (lC q1),?_⟩⟩;exact lM (by rw [List.map_reverse,pC lus.symm];exact List.pairwise_reverse.mpr (ndp.imp fun z=>Ne.symm z)) (List.mem_reverse.mpr (oM q1 hu))
    . rw [br (by lia)] at q1;rw [br (by lia),bG,lvs] at hv';have hj:i - L.ps.length < L.caps.length:=(aH.mp q1).1;have hc:cells[i - L.ps.length]? = some (cells[i - L.ps.length]'(by lia)):=az (by lia);obtain ⟨o,u,dd,x1,x2,x3,x4,x5⟩:=cin _ _ hc;rw [x1] at hv';cases hv';exact ⟨u,x4,.inr ⟨.inr (lo.cfree x (lC q1)),_,clk _ x _ q1 hc,o,hk₁ _ _ (hgo x2),x3⟩⟩
  . obtain ⟨j,a1,a2⟩:=cof x c q;obtain ⟨o,u,dd,x1,x2,x3,x4,x5⟩:=cin _ _ a2;exact ⟨_,o,hk₁ _ _ (hgo x2),x3⟩
  . obtain ⟨j,a1,a2⟩:=cof x c q;obtain ⟨o,u,dd,x1,x2,x3,x4,x5⟩:=cin _ _ a2;exact kU x5
  . unfold L2.start;show _ = (L.ps++L.caps).length;rw [aj,ao,du];have:(vs++cs.map flV).length = (L.ps++L.caps).length:=by rw [aj,aj,ao];lia
    lia
 have rlc:∀ (cs':List D),(∀ dd∈cs',flat dd = true)->aG K (gQ H (cells.zip os)) F cs' (cs'.map flV):=by
  intro cs'
  induction cs' with
  | nil=>intro _;exact aG.nil
  | cons x xs ih=>intro hh;exact aG.cons (Aw (hh x ay)) (ih fun y hy=>hh y (au _ hy))
 have hflat:∀ dd∈cs,flat dd = true:=fun dd hd'=>by
  obtain ⟨j,hj,ej⟩:=lD.mp hd';obtain ⟨o,u,z1,z2,z3,z4⟩:=e4 j _ dd (az (by lia)) (by rw [<- ej];exact az hj);exact z4
 have rl2:aG K (gQ H (cells.zip os)) F (ds++cs) (vs++cs.map flV):=aG.append (pP fz0 ds vs lfl rl) (rlc cs hflat);have ok:=pM (N:=L.ps++L.caps) (fd.del fz0) tf (uE tb fz0 isc) rl2 (by rw [aj,aj,ao];lia)
 have pe:=hE a (.ref c') (L.caps.zip cells) A outer s (gQ H (cells.zip os)) (hr.deeper _) [] _ _ _ (fun v H'=>∃ F',Ok K ⟨gQ H (cells.zip os),fun b=>F b/\∃ o,gQ H (cells.zip os) b = some o/\Mo o⟩ F' (L2.start (L.ps++L.caps) (vs++cs.map flV)) H' δ'/\Rel K H' F' d v) I
  ⟨_,F,_,d,δ',ok,ev,fun v H' F' st sm ok' r=>⟨F',ok',by rw [np0] at r;exact r⟩⟩
 refine PySem.W.kla_codeExpr (iJ pe (fun u s' hp=>?_) fun e s' hp=>hp.elim);obtain ⟨v,H',J,rv',F',ok',r'⟩:=hp;have un:=J.base;have bz:∀ b o,(cells.zip os).lookup b = some o->s.heap.get? b = some o/\b∉frs outer:=fun b o q=>⟨hgo (fz0 b o q),fun z=>by have y:=fz0 b o q;rw [e0.frf b z] at y;cases y⟩;have c0:Un0 H' s'.heap (cells.zip os):=fun b o q=>⟨un.free b o (bz b o q).1 (kU q) (by intro z;exact absurd (show b∈([]:List av) from z) (by simp)),un.keep b o (bz b o q).1 (kU q) (bz b o q).2 (by intro z;exact absurd (show b∈([]:List av) from z) (by simp))⟩;have sim:Sim H (kl H' (cells.zip os)):=FW fz0 ok'.same;refine ⟨v,kl H' (cells.zip os),J.os,J.bare,Un.add fz0 un c0,HOk.add J.hok c0,rv',post v _ sim (ok'.tabs.keep fun b o _ z=>c0.same b o z) ?_⟩;exact Rel.free (fd.sim sim) d v lfd (Rel.step (G:=g0) ok'.fd (Step.of_same c0.same) d v r')
structure Mkr (K:PySem.W.Frag) (cf:List (Str × List Str)) (gn:List Str) (fd:Fd) (st:cY) (fdd:dW) where
 f:Nat
 es:Es
 k:Nat
 caps:List Nat
 x:Str
 ps:List Str
 y:aE
 ys:List aE
 p:Pos
 lp:Pos
 pos:Pos
 rp:Pos
 L:Lam
 c:av
 P:av
 cells:av->List av
 body:fd.body = .cons (.retL f es k caps) .nil
 text:eA st = [.Return (some (.Call (.Name x p) (y::(ys++[.Lambda L.params L.body L.scope lp])) [] pos)) rp]
 lam:Tbs.lams.lookup k = some L
 args:gc ⟨fd.ps++fd.loc,bA st,cf,gn⟩ es (y::ys) = true
 npk:gL es = true
 fn:cf[f]? = some (x,ps)
 gl:fA ⟨fd.ps++fd.loc,bA st,cf,gn⟩ x = true
 nd:L.caps.Nodup
 dft:∀ env,defaultsOf L.params env = ([],[])
 cl:∀ (l a:av) (cd:af),closureFor L.scope (envOfC fd.name (bA st) l a cd) = pure (L.caps.zip (cells l))
 cp:∀ (X:Cx) (l a:av) (cd:af),X.N = fd.ps++fd.loc->X.env = envOfC fd.name (bA st) l a cd->nO X caps L.caps (cells l)
 code:fdd.code = .ref c
 hd:PySem.W.codeHdIn K c P = true
 tb:(P,L.qual)∈Tbs.ts
 un:∀ t∈Tbs.ts,t.1 = P->t.2 = L.qual
 ql:fd.name++".<locals>."++"<lambda>" = L.qual
structure Dn (K:PySem.W.Frag) (mgv:Str->Option af) (cf:List (Str × List Str)) (gn:List Str) (fd:Fd) (st:cY) (a:av) (fdd:dW):Prop where
 fn:Fun K fd.name fd.name st a fdd
 mg:mgv fd.name = some (.ref a)
 sc:mR (fd.ps++fd.loc) fd.ps (bA st)
 ck:vD ⟨fd.ps++fd.loc,bA st,cf,gn⟩ fd.body (eA st) = true\/Nonempty (Mkr K cf gn fd st fdd)\/∀ (X:Cx) (cx:Cl) (k:Nat),Cok X ⟨fd.ps++fd.loc,bA st,cf,gn⟩ cx k->X.env.scope = bA st->X.env.blockKind = .function->X.K = K->X.mg = mgv->PSs X (eA st) (tS K (dH cx fd.body))
 bd:Binds K fdd fd.ps []
noncomputable def yV (K:PySem.W.Frag) (mg:Str->Option af) (cf:List (Str × List Str)) (gn:List Str):List Fd->Prop
 | []=>True
 | fd::r=>(∃ st a fdd,Dn K mg cf gn fd st a fdd)/\yV K mg cf gn r
theorem nL {K:PySem.W.Frag} {mg:Str->Option af} {cf:List (Str × List Str)} {gn:List Str}:∀ {G:List Fd} {i:Nat} {fd:Fd},yV K mg cf gn G->G[i]? = some fd->∃ st a fdd,Dn K mg cf gn fd st a fdd
 | [],_,_,_,e=>by simp at e
 | f::r,0,fd,h,e=>by
   cases e
   exact h.1
 | f::r,i+1,fd,h,e=>nL (i:=i) h.2 (by simpa using e)
noncomputable def oG (G:List Fd):List (Str × List Str):=G.map fun fd=>(fd.name,fd.ps)
structure Ln (G Gd:List Fd) (gn:List Str) (k:Nat) (L:Lam):Prop where
 ok:EL L
 fd:∃ fd e,G[k]? = some fd/\fd.ps = L.ps++L.caps/\fd.loc = []/\fd.body = .cons (.ret e) .nil/\fd.hf = false/\bL e = false/\ckE ⟨L.ps++L.caps,L.scope,oG Gd,gn⟩ e L.body = true
structure Top (w:bj) (K:PySem.W.Frag) (mg:Str->Option af) (G Gd:List Fd) (gl:List D) (gn:List Str):Prop where
 fns:yV K mg (oG Gd) gn Gd
 sub:∀ (i:Nat) (fd:Fd),Gd[i]? = some fd->G[i]? = some fd
 few:G.length<=sN
 lams:∀ (k:Nat) (L:Lam),Tbs.lams.lookup k = some L->Ln G Gd gn k L
 blt:∀ x,x∈jw->mg x = none
 glob:∀ (g:Nat) (x:Str) (d:D),gn[g]? = some x->gl[g]? = some d->∃ u v,mg x = some u/\RelV v u/\∀ H F,Rel K H F d v
 gsome:∀ (g:Nat) (x:Str),gn[g]? = some x->∃ d,gl[g]? = some d
 gds:∀ (n:Str) (l:List (Str × Int)),Tbs.gds.lookup n = some l->∃ a,mg n = some (.ref a)/\GdK w K a l
theorem zO {K:PySem.W.Frag} {H:Hp} {F:av->Prop} {ds:List D} {vs:List V} {N:List Str} {k:Nat} {cs:List D} {a:av} (fd:FD F H) (tf:TF F) (tb:gU H) (r:aG K H F ds vs) (fv:FnV H k cs a) (hl:vs.length+1<=N.length):Ok K ⟨H,fun b=>F b/\∃ o,H b = some o/\Mo o⟩ F (L2.start N (vs++[.ref a])) H (nY N.length ds k cs):=by
 have hlen:=r.length
 have low:∀ (i:Nat) (s:Sl),(nY N.length ds k cs)[i]? = some s->s = .no\/(∃ d,ds[i]? = some d/\s = .val d)\/(i = ds.length/\s = .fnc k cs):=fun i s e=>by
  unfold nY at e;by_cases hi:i < ds.length
  . rw [aW (by simpa using hi),bG,az hi] at e;cases e;exact .inr (.inl ⟨_,az hi,rfl⟩)
  . rw [br (by simp;lia),ao] at e
    cases q:i - ds.length with
    | zero =>
      rw [q] at e;cases e
      exact .inr (.inr ⟨by lia,rfl⟩)
    | succ m =>
      rw [q,vO,di] at e;split at e
      . cases e;exact .inl rfl
      . cases e
 have at_:∀ (i:Nat) (v:V),(vs++[.ref a])[i]? = some v->(L2.start N (vs++[.ref a]))[i]? = some (some v):=fun i v e=>by
  unfold L2.start;have hi:i < (vs++[V.ref a]).length:=(aH.mp e).1;rw [aW (by rw [ao];exact hi),bG,e];rfl
 refine ⟨Sim.refl H,fd,fun b z=>z.1,fun b z=>z.2,tf,tb,?_,fun i s e=>?_,fun i j s t b e1 _ o1=>?_⟩
 . unfold nY L2.start;simp only [aj,ao,du,ak,ax]
   lia
 . rcases low i s e with rfl | ⟨d,e1,rfl⟩ | ⟨rfl,rfl⟩
   . trivial
   . obtain ⟨v,hv,rv⟩:=r.get e1;exact ⟨v,at_ i v (by rw [aW (aH.mp hv).1];exact hv),rv⟩
   . exact ⟨a,at_ _ _ (by rw [<- hlen,br (aB _),xD];rfl),fv⟩
 . rcases low i _ e1 with z | ⟨d,_,z⟩ | ⟨_,z⟩<;>(subst z;cases o1)
theorem grow {K:PySem.W.Frag} {H H':Hp} {F F':av->Prop} {σ:L2.St} {δ:Loc} (hfd:FD F H) (ok:Ok K ⟨H,fun b=>F b/\∃ o,H b = some o/\Mo o⟩ F' σ H' δ) (b:av) (z:F b):F' b:=by
 obtain ⟨o,e,m | ⟨⟨ps,rfl⟩,t,ht,eb⟩⟩:=hfd b z
 . exact ok.rf b ⟨z,o,e,m⟩
 . rw [<- eb];exact ok.tf t ht
theorem okC {P:aM} {w:bj} {K:PySem.W.Frag} {mg:Str->Option af} {base:bJ} {x qual:Str} {st:cY} {f:av} {fd:dW} {N ps:List Str} {k:Nat} {sp:Sp} (F:Fun K x qual st f fd) (S:mR N ps (bA st)) (len:∀ vs H Q E,sp vs H Q E->vs.length = ps.length)
 (hbody:∀ (A:ba) (outer:List Env) (s:ai) (H:Hp) (vs:List V) (Q:VK) (E:XK),km k (A.deeper (envOfC qual (bA st) s.heap.objs.size f fd.code))->sp vs H Q E ->
   ∃ t,PSs (tW CX0 P w K mg base N qual (bA st) f fd.code A outer s H E).nox (eA st) t/\t { nx:=fun _ H'=>Q .non H',rt:=Q } (L2.start N vs) H):lq P w K mg base CX0 (k+1) f fd ps sp:=by
 obtain ⟨oc,od,kV,doc,pm,an,cdv,ct,osl,rfl,lk,hcd⟩:=F.ex;refine MK lk hcd S len fun A outer s H vs Q E hr hsp=>?_;obtain ⟨t,h,q⟩:=hbody A outer s H vs Q E hr hsp;exact ⟨t,h.nox,q⟩
section
variable {P:aM} {w:bj} {K:PySem.W.Frag} {mg:Str->Option af} {base:bJ} {G Gd:List Fd} {gl:List D} {gn:List Str}
noncomputable def BM (mg:Str->Option af) (base:bJ):Prop:=∃ bm ob,mg "__builtins__" = some (.ref bm)/\bm≠builtinsNs/\base.get? bm = some ob/\ob.cls = .type "module"/\ob.dict = some builtinsNs/\ob.data = .plain
theorem mi (e:G[i]? = some fd) (h:run G gl (n+1) i ds = some d):ds.length = fd.ps.length/\∃ δ,entry fd.hf (fd.ps++fd.loc).length ds = some δ/\outD (dH ⟨run G gl n,gl,hfs G⟩ fd.body δ) = some d:=by
 unfold run at h;rw [e] at h;dsimp only at h;split at h
 . cases q:entry fd.hf (fd.ps++fd.loc).length ds with
   | none=>rw [q] at h;cases h
   | some δ=>rw [q] at h;exact ⟨‹_›,δ,rfl,h⟩
 . cases h
theorem yo (few:G.length<=sN) (e:G[i]? = some fd) (h:run G gl (n+1) (i+sN) ds = some d):ds.length = fd.ps.length/\∃ δ,entry fd.hf (fd.ps++fd.loc).length ds = some δ/\JJ (dH ⟨run G gl n,gl,hfs G⟩ fd.body δ) = some d:=by
 unfold run at h;rw [eW (by lia)] at h;dsimp only at h;rw [Nat.add_sub_cancel,e] at h;dsimp only at h;split at h
 . cases q:entry fd.hf (fd.ps++fd.loc).length ds with
   | none=>rw [q] at h;cases h
   | some δ=>rw [q] at h;exact ⟨(‹_/\_›).2,δ,rfl,h⟩
 . cases h
theorem rA (r:aG K H F ds vs) (e:ds.getLast? = some (.fn k cs)):False:=by
 rw [List.getLast?_eq_getElem?] at e;obtain ⟨v,_,rv⟩:=r.get e;unfold Rel at rv;exact rv
theorem uQ (z:n = 0):run G gl n f ds = none:=by
 subst z;rfl
theorem EI (T:Top w K mg G Gd gl gn) (hK:K.In base) (hB:BM mg base):∀ n:Nat,(∀ (i:Nat) (fd:Fd) (st:cY) (a:av) (fdd:dW),Gd[i]? = some fd->Dn K mg (oG Gd) gn fd st a fdd ->
 lq P w K mg base CX0 n a fdd fd.ps (spF K (run G gl n i))/\(fd.hf = true->lq P w K mg base CX0 n a fdd fd.ps (zP K (run G gl n i)))/\lq P w K mg base CX0 n a fdd fd.ps (spO K (run G gl n (i+sN)))) /\
 ∀ (k:Nat) (L:Lam),Tbs.lams.lookup k = some L->Hs P w K mg base n k (run G gl n k)
 | 0=>by
   have z:∀ i ds d,run G gl 0 i ds≠some d:=fun i ds d h=>by unfold run at h;cases h
   refine ⟨fun i fd st a fdd e _=>⟨⟨fun vs H Q E h=>?_,fun A outer s H args us vs Q E _ _ _ _ h=>?_⟩,fun _=>⟨fun vs H Q E h=>?_,fun A outer s H args us vs Q E _ _ _ _ h=>?_⟩,⟨fun vs H Q E h=>?_,fun A outer s H args us vs Q E _ _ _ _ h=>?_⟩⟩,fun k L _ A outer s H a us vs cs Q _ _ _ _ h=>?_⟩
   . obtain ⟨F,ds,d,_,_,_,_,h1,_⟩:=h;exact (z _ _ _ h1).elim
   . obtain ⟨F,ds,d,_,_,_,_,h1,_⟩:=h;exact (z _ _ _ h1).elim
   . obtain ⟨F,ds,ws,k,cs,a,d,_,_,_,_,_,_,h1,_⟩:=h;exact (z _ _ _ h1).elim
   . obtain ⟨F,ds,ws,k,cs,a,d,_,_,_,_,_,_,h1,_⟩:=h;exact (z _ _ _ h1).elim
   . obtain ⟨F,ds,d,_,_,_,_,h1,_⟩:=h;exact (z _ _ _ h1).elim
   . obtain ⟨F,ds,d,_,_,_,_,h1,_⟩:=h;exact (z _ _ _ h1).elim
   . obtain ⟨F,ds,d,_,_,_,_,_,h1,_⟩:=h;exact (z _ _ _ h1).elim
 | n+1=>by
   obtain ⟨ih,il⟩:=EI T hK hB n
   have fns:∀ (f:Nat) (x:Str) (ps:List Str),(oG Gd)[f]? = some (x,ps)->∃ gd st a fdd,gd.name = x/\gd.ps = ps/\Gd[f]? = some gd/\Dn K mg (oG Gd) gn gd st a fdd:=fun f x ps hf=>by
    have hf':(Gd.map fun fd=>(fd.name,fd.ps))[f]? = some (x,ps):=hf;rw [bG,aI] at hf';obtain ⟨gd,eg,ep⟩:=hf';cases ep;obtain ⟨st',a',fdd',D'⟩:=nL T.fns eg;exact ⟨gd,st',a',fdd',rfl,rfl,eg,D'⟩
   have fn1:∀ (f:Nat) (x:Str) (ps:List Str),(oG Gd)[f]? = some (x,ps)->∃ a fd,mg x = some (.ref a)/\PySem.W.keepIn K (.ref a) = true/\Binds K fd ps []/\lq P w K mg base CX0 n a fd ps (spF K (run G gl n f)):=fun f x ps hf=>by
    obtain ⟨gd,st,a,fdd,rfl,rfl,eg,D'⟩:=fns f x ps hf;exact ⟨a,fdd,D'.mg,D'.fn.kp,D'.bd,(ih f gd st a fdd eg D').1⟩
   have fn2:∀ (f:Nat) (x:Str) (ps:List Str),(oG Gd)[f]? = some (x,ps)->hfs G f = true->∃ a fd,mg x = some (.ref a)/\PySem.W.keepIn K (.ref a) = true/\Binds K fd ps []/\lq P w K mg base CX0 n a fd ps (zP K (run G gl n f)):=fun f x ps hf hh=>by
    obtain ⟨gd,st,a,fdd,rfl,rfl,eg,D'⟩:=fns f x ps hf;refine ⟨a,fdd,D'.mg,D'.fn.kp,D'.bd,(ih f gd st a fdd eg D').2.1 ?_⟩;unfold hfs at hh;rw [T.sub f gd eg] at hh;exact hh
   have fn3:∀ (f:Nat) (x:Str) (ps:List Str),(oG Gd)[f]? = some (x,ps)->∃ a fd,mg x = some (.ref a)/\PySem.W.keepIn K (.ref a) = true/\Binds K fd ps []/\lq P w K mg base CX0 n a fd ps (spO K (run G gl n (f+sN))):=fun f x ps hf=>by
    obtain ⟨gd,st,a,fdd,rfl,rfl,eg,D'⟩:=fns f x ps hf;exact ⟨a,fdd,D'.mg,D'.fn.kp,D'.bd,(ih f gd st a fdd eg D').2.2⟩
   have lm1:∀ (m:Nat) (cs:List D) (H:Hp) (a:av),FnV H m cs a->Hs P w K mg base n m (run G gl n m):=fun m cs H a fv=>by
    obtain ⟨L,_,_,_,_,_,_,_,hL,_⟩:=fv;exact il m L hL
   refine ⟨fun i fd st a fdd e Dd=>?_,fun k L hL=>?_⟩
   . have eG:=T.sub i fd e
     have C:∀ (A:ba) (outer:List Env) (s:ai) (H:Hp) (E:XK),km n (A.deeper (envOfC fd.name (bA st) s.heap.objs.size a fdd.code)) ->
      Cok (tW CX0 P w K mg base (fd.ps++fd.loc) fd.name (bA st) a fdd.code A outer s H E).nox ⟨fd.ps++fd.loc,bA st,oG Gd,gn⟩ ⟨run G gl n,gl,hfs G⟩ n:=fun A outer s H E hr =>
      ⟨rfl,Dd.sc.nd,fun x hx=>hx,fun x hx=>hx,fun x hx=>⟨hx,.inl rfl⟩,fun x hx=>hx,rfl,rfl,hr,fn1,fn2,fn3,lm1,T.blt,T.glob,T.gsome,T.gds,fun z f ds=>uQ z⟩
     have B:∀ (A:ba) (outer:List Env) (s:ai) (H:Hp) (E:XK),km n (A.deeper (envOfC fd.name (bA st) s.heap.objs.size a fdd.code)) ->
      PSs (tW CX0 P w K mg base (fd.ps++fd.loc) fd.name (bA st) a fdd.code A outer s H E).nox (eA st) (tS K (dH ⟨run G gl n,gl,hfs G⟩ fd.body)):=fun A outer s H E hr=>by
      have hblk:(tW CX0 P w K mg base (fd.ps++fd.loc) fd.name (bA st) a fdd.code A outer s H E).nox.env.blockKind = .function:=by
       unfold Env.blockKind;show (if (bA st).kind.isAnnotationScope then ScopeKind.function else (bA st).kind) = _;rw [Dd.sc.kind];rfl
      rcases Dd.ck with ck | M' | oq
      . exact qX (cx:=⟨run G gl n,gl,hfs G⟩) (C A outer s H E hr) rfl hblk fd.body (eA st) ck
      . cases M' with
        | intro M =>
        rw [M.text,M.body];have args:=M.args;have Cc:=C A outer s H E hr;refine qY (Cd (P:=M.P) (cells:=M.cells s.heap.objs.size) Cc M.lam ⟨⟨M.c,M.code,PySem.W.codeHd_of_K hK M.hd⟩,M.ql,M.tb,M.un,hB⟩ (M.cl _ _ _) (M.dft _) (M.cp _ _ _ _ rfl rfl) M.nd (fun _=>rfl) M.npk M.fn M.gl (fun z tz hz hs=>wB M.es _ _ (M.y::M.ys) z tz Cc args (gy M.npk) hz hs) (fun z=>?_) fun z hz=>?_) uK
        . obtain ⟨_,_,_,a1,_⟩:=eH args;exact cK (bX a1) _ _
        . obtain ⟨_,_,_,_,a2⟩:=eH args;exact ni hz a2
      . exact oq _ _ n (C A outer s H E hr) rfl hblk rfl rfl
     have fin:∀ {F:av->Prop} {H:Hp} {σ:L2.St} {δ:Loc} {d:D} {Q:VK} {E:XK} (hfd:FD F H) (htf:TF F) (ok:Ok K ⟨H,fun b=>F b/\∃ o,H b = some o/\Mo o⟩ F σ H δ) (h2:outD (dH ⟨run G gl n,gl,hfs G⟩ fd.body δ) = some d) (q:∀ v H',Sim H H'->gU H'->Rel K H' F d v->Q v H'),
      tS K (dH ⟨run G gl n,gl,hfs G⟩ fd.body) { nx:=fun _ H'=>Q .non H',rt:=Q } σ H:=fun {F H σ δ d Q E} hfd htf ok h2 q=>by
      cases eo:dH ⟨run G gl n,gl,hfs G⟩ fd.body δ with
      | none=>rw [eo] at h2;cases h2
      | some o =>
        rw [eo] at h2;refine ⟨⟨H,fun b=>F b/\∃ o,H b = some o/\Mo o⟩,F,_,o,ok,eo,?_⟩
        cases o with
        | nx δ =>
          cases h2
          exact fun σ' H' F' st' ok'=>q .non H' ok'.same ok'.tabs xY
        | rt d' δ =>
          cases h2;refine fun v σ' H' F' st' ok' r'=>q v H' ok'.same ok'.tabs (Rel.step (G:=g0) ok'.fd ⟨fun _ _ _ e _=>e,fun b z=>?_,fun _ _ r _ _=>r.elim,fun _ ps e=>⟨ps,e⟩⟩ _ v r')
          exact .inl (grow hfd ok' b z)
        | ro ds' δ =>
          cases h2;refine fun a xs σ' H' F' st' ok' f1 f2 hs r'=>q _ H' ok'.same ok'.tabs ?_;exact gX.rel ok'.fd (grow hfd ok') (rz hfd f2.1) hs r'
     have fiO:∀ {F:av->Prop} {H:Hp} {σ:L2.St} {δ:Loc} {zs:D} {Q:VK} (hfd:FD F H) (htf:TF F) (ok:Ok K ⟨H,fun b=>F b/\∃ o,H b = some o/\Mo o⟩ F σ H δ) (h2:JJ (dH ⟨run G gl n,gl,hfs G⟩ fd.body δ) = some zs) (q:∀ a u H',Sim H H'->gU H'->H a = none->H' a = some u->gX K H' (fun b=>F b\/b = a) zs u->Q (.ref a) H'),
      tS K (dH ⟨run G gl n,gl,hfs G⟩ fd.body) { nx:=fun _ H'=>Q .non H',rt:=Q } σ H:=fun {F H σ δ zs Q} hfd htf ok h2 q=>by
      cases eo:dH ⟨run G gl n,gl,hfs G⟩ fd.body δ with
      | none=>rw [eo] at h2;cases h2
      | some o =>
        rw [eo] at h2;refine ⟨⟨H,fun b=>F b/\∃ o,H b = some o/\Mo o⟩,F,_,o,ok,eo,?_⟩
        cases o with
        | ro ds' δ =>
          cases h2;refine fun a xs σ' H' F' st' ok' f1 f2 hs r'=>q a xs H' ok'.same ok'.tabs f2.1 hs ?_
          have gr:∀ b,(F b\/b = a)->F' b:=fun b z=>by
           rcases z with z | z
           . exact grow hfd ok' b z
           . rw [z];exact f1
          exact gX.step (G:=g0) ok'.fd ⟨fun _ _ _ e _=>e,fun b z=>.inl (gr b z),fun _ _ r _ _=>r.elim,fun _ ps e=>⟨ps,e⟩⟩ r'
        | _=>cases h2
     refine ⟨okC Dd.fn Dd.sc (fun vs H Q E h=>?_) fun A outer s H vs Q E hr h=>?_,fun hh=>okC Dd.fn Dd.sc (fun vs H Q E h=>?_) fun A outer s H vs Q E hr h=>?_,okC Dd.fn Dd.sc (fun vs H Q E h=>?_) fun A outer s H vs Q E hr h=>?_⟩
     . obtain ⟨F,ds,d,_,_,_,r,h1,_⟩:=h;rw [r.length,(mi eG h1).1]
     . obtain ⟨F,ds,d,hfd,htf,htb,r,h1,q⟩:=h;obtain ⟨hl,δ,ed,h2⟩:=mi eG h1;have hlen:=r.length;refine ⟨_,B A outer s H E hr,?_⟩;unfold entry at ed;split at ed
       . cases ed;exact fin (E:=E) hfd htf (pM hfd htf htb r (by rw [hlen,hl,aj];lia)) h2 q
       . split at ed
         . rename_i eq;exact (rA r eq).elim
         . cases ed
     . obtain ⟨F,ds,ws,k,cs,b,d,_,_,_,rfl,r,_,h1,_⟩:=h;have:=(mi eG h1).1;rw [aj] at this ⊢;rw [r.length];exact this
     . obtain ⟨F,ds,ws,k,cs,b,d,hfd,htf,htb,rfl,r,fv,h1,q⟩:=h;obtain ⟨hl,δ,ed,h2⟩:=mi eG h1;have hlen:=r.length;refine ⟨_,B A outer s H E hr,?_⟩;rw [hh] at ed;unfold entry at ed;simp only [List.getLast?_concat,zh] at ed;cases ed;rw [aj] at hl;exact fin (E:=E) hfd htf (zO hfd htf htb r fv (by rw [hlen,aj];simp at hl;lia)) h2 q
     . obtain ⟨F,ds,zs,_,_,_,r,h1,_⟩:=h;rw [r.length,(yo T.few eG h1).1]
     . obtain ⟨F,ds,zs,hfd,htf,htb,r,h1,q⟩:=h;obtain ⟨hl,δ,ed,h2⟩:=yo T.few eG h1;have hlen:=r.length;refine ⟨_,B A outer s H E hr,?_⟩;unfold entry at ed;split at ed
       . cases ed;exact fiO hfd htf (pM hfd htf htb r (by rw [hlen,hl,aj];lia)) h2 q
       . split at ed
         . rename_i eq;exact (rA r eq).elim
         . cases ed
   . obtain ⟨lo,fd,e,eG,ep,el,eb,eh,pk,ck⟩:=T.lams k L hL;refine Kk (cx:=⟨run G gl n,gl,hfs G⟩) (e:=e) hL lo (fun a cd cl A outer s H hr=>?_) pk fun ds d h1=>?_
     . refine dq e (cxL P w K mg base L a cd cl A outer s H) ⟨L.ps++L.caps,L.scope,oG Gd,gn⟩ L.body (k:=n) ⟨rfl,lo.nd,fun x hx=>hx,fun x hx=>hx,fun x hx=>?_,fun x hx=>hx,rfl,rfl,hr,fn1,fn2,fn3,lm1,T.blt,T.glob,T.gsome,T.gds,fun z f ds=>uQ z⟩ ck
       have:L.scope.names.lookup x = some .local:=by
        rcases hx with hx | hx
        . exact hx
        . exact absurd rfl (lo.nocell _ (PySem.mem_of_lookup hx))
       exact ⟨.inl this,.inr this⟩
     . obtain ⟨hl,δ,ed,h2⟩:=mi eG h1;rw [eh,ep,el,bS] at ed;rw [ep] at hl;cases ed;rw [eb] at h2;refine ⟨hl,?_⟩;simp only [dH,evS,ag] at h2
       cases q:evE ⟨run G gl n,gl,hfs G⟩ e (init (L.ps++L.caps).length ds) with
       | none=>rw [q] at h2;cases h2
       | some r =>
         rw [q] at h2;cases h2;exact ⟨r.2,rfl⟩
end
noncomputable def rxs (st:cY):List aE:=match eA st with
 | [.Return (some (.Call _ xs _ _)) _]=>xs
 | _=>[]
noncomputable def rps (st:cY):Pos × Pos × Pos:=match eA st with
 | [.Return (some (.Call (.Name _ p) _ _ q)) r]=>(p,q,r)
 | _=>(⟨0,0,0,0⟩,⟨0,0,0,0⟩,⟨0,0,0,0⟩)
noncomputable def rlm (st:cY):aE:=(rxs st).getLastD (.Constant .none 0 ⟨0,0,0,0⟩)
noncomputable def NH:aE->oy
 | .Lambda a _ _ _=>a
 | _=>⟨[],[],none,[],[],none,[]⟩
noncomputable def NG:aE->aE
 | .Lambda _ b _ _=>b
 | x=>x
noncomputable def ND:aE->dS
 | .Lambda _ _ s _=>s
 | _=>{ kind:=.function,names:=[],isGenerator:=false,isCoroutine:=false,more:=[] }
noncomputable def NF:aE->Pos
 | .Lambda _ _ _ p=>p
 | _=>⟨0,0,0,0⟩
noncomputable def hS (a:av) (o:Option HO):Hp:=fun b=>if b = a/\o.isSome = true then o else if b∈Tbs.ts.map (·.1) then some (.tbl #[]) else none
theorem tJ (e:hS a o b = some u):(b = a/\o = some u)\/(b∈Tbs.ts.map (·.1)/\u = .tbl #[]):=by
 unfold hS at e;split at e
 . rename_i h;exact .inl ⟨h.1,e⟩
 . split at e
   . cases e;exact .inr ⟨‹_›,rfl⟩
   . cases e
theorem GV {P:aM} {w:bj} {K:PySem.W.Frag} {mg mb:Str->Option af} {fa a:av} {fd:dW} {x:Str} {f:List D->Option D} {s₁:ai} {vs:List af} {ns:List Int}
 (KX:K.In s₁.heap) (hns:s₁.heap.Ns mainGlobals mg) (hb:s₁.heap.Ns builtinsNs mb) (hbb:∀ x:Str,x≠"__name__"->mb x = bootBuiltins x) (hlim:s₁.heap.NoLimit) (hg:s₁.gens = #[]) (hbm:BM mg s₁.heap)
 (ha:s₁.heap.get? a = some { cls:=.type "list",data:=.seq vs.toArray }) (hi:EU vs ns) (hl:ns.length<=sizeLine) (hr:km 200 callerA)
 (ht:∀ t∈Tbs.ts,s₁.heap.get? t.1 = some (PySem.W.tabObj #[])/\K.lookup t.1 = none/\isCodeTable s₁.heap t.1)
 (F:∀ base:bJ,K.In base->BM mg base->lq P w K mg base CX0 200 fa fd [x] (spF K f)) (hbind:Binds K fd [x] [])
 (hf:f [.lst (ns.map .int)] = some (.bl true)) :
 codeAny (model P w) callerA (.call (.ref fa) ⟨[.ref a],[]⟩) (fun r s'=>r = .ok (.ret (.bool true))/\OldK s₁.heap s'.heap/\s'.os = s₁.os/\lX s'.gens) s₁:=by
 have rv:=qU hi;have lenV:=hi.length
 have htm:∀ b,b∈Tbs.ts.map (·.1)->s₁.heap.get? b = some (PySem.W.tabObj #[])/\K.lookup b = none/\isCodeTable s₁.heap b:=fun b hb=>by
  obtain ⟨t,h1,h2⟩:=bx.mp hb;rw [<- h2];exact ht t h1
 have aT:a∉Tbs.ts.map (·.1):=fun z=>by
  have:=(htm a z).1;rw [ha] at this;cases this
 have core:∀ o:Option HO,(∀ u,o = some u->∃ xs,u = .frz { cls:=.type "list",data:=.seq vs.toArray } (.lst xs))->HOk P w (hS a o) s₁.heap->(o≠none->K.lookup a = none)->Rel K (hS a o) (fun b=>b∈Tbs.ts.map (·.1)) (.lst (ns.map .int)) (.ref a) ->
  codeAny (model P w) callerA (.call (.ref fa) ⟨[.ref a],[]⟩) (fun r s'=>r = .ok (.ret (.bool true))/\OldK s₁.heap s'.heap/\s'.os = s₁.os/\lX s'.gens) s₁:=by
  intro o hO hok hK hR;have base_of:∀ {b:av} {x:Obj},s₁.heap.get? b = some x->hS a o b = none->(qG s₁.heap (hS a o)).get? b = some x:=fun e n=>DZ e n
  have noA:∀ {b:av} {x:Obj},s₁.heap.get? b = some x->(∀ its n,x.data≠.seq its n)->(∀ vs,x.data≠.fields vs)->hS a o b = none:=fun {b x} e d1 d2=>by
   cases q:hS a o b with
   | none=>rfl
   | some u =>
     rcases tJ q with ⟨rfl,_⟩ | ⟨z,_⟩
     . rw [ha] at e;cases e;exact absurd rfl (d1 _ _)
     . rw [(htm b z).1] at e;cases e;exact absurd rfl (d2 _)
  have nsK:∀ {b:av} {m:Str->Option af},s₁.heap.Ns b m->(qG s₁.heap (hS a o)).Ns b m:=fun {b m} ⟨x,es,ep,e,d,r⟩=>⟨x,es,ep,base_of e (noA e (fun _ _ z=>by rw [d] at z;cases z) fun _ z=>by rw [d] at z;cases z),d,r⟩
  have hKb:K.In (qG s₁.heap (hS a o)):=fun b x e=>base_of (KX b x e) (by
   cases q:hS a o b with
   | none=>rfl
   | some u =>
     rcases tJ q with ⟨rfl,z⟩ | ⟨z,_⟩
     . rw [hK (by rw [z];simp)] at e;cases e
     . rw [(htm b z).2.1] at e;cases e)
  have hM:Mod K mg (qG s₁.heap (hS a o)):=⟨hKb,nsK hns,⟨mb,nsK hb,hbb⟩,let ⟨mc,h1,h2⟩:=hlim;⟨mc,nsK h1,h2⟩⟩
  have hB:BM mg (qG s₁.heap (hS a o)):=by
   obtain ⟨bm,ob,b1,b2,b3,b4,b5,b6⟩:=hbm;exact ⟨bm,ob,b1,b2,base_of b3 (noA b3 (fun _ _ z=>by rw [b6] at z;cases z) fun _ z=>by rw [b6] at z;cases z),b4,b5,b6⟩
  have e0:ug P w K mg (qG s₁.heap (hS a o)) callerA [] s₁ (hS a o):=⟨rfl,hM,fun b x e=>GO e,Nat.le_of_eq (Au _ _),trivial,fun b hb=>absurd (show b∈([]:List av) from hb) (by simp),hok,.of_eq hg⟩
  have atT:∀ b,b∈Tbs.ts.map (·.1)->hS a o b = some (.tbl #[]):=fun b z=>by
   unfold hS;rw [if_neg (fun y=>aT (by rw [<- y.1];exact z)),if_pos z]
  have sp:spF K f [.ref a] (hS a o) (fun v _=>v = .bl true) E0:=⟨fun b=>b∈Tbs.ts.map (·.1),[.lst (ns.map .int)],.bl true,fun b z=>by
   obtain ⟨t,h1,h2⟩:=bx.mp z;exact ⟨_,atT b z,.inr ⟨⟨#[],rfl⟩,t,h1,h2⟩⟩,fun t h=>bx.mpr ⟨t,h,rfl⟩,fun t h=>⟨#[],atT _ (bx.mpr ⟨t,h,rfl⟩),trivial,fun pos cv e=>by cases e⟩,aG.one hR,hf,fun v H' _ _ r=>by unfold Rel at r;exact r⟩
  refine lT ((F _ hKb hB).run callerA [] s₁ (hS a o) ⟨[.ref a],[]⟩ [.ref a] [.ref a] _ _ hr e0 (hbind s₁ [.ref a] KX rfl) (.cons rfl .nil) sp) fun r s' h=>?_
  cases r with
  | error e=>exact cB h
  | ok fl =>
    cases fl with
    | next=>exact cB h
    | brk=>exact cB h
    | cont=>exact cB h
    | ret u =>
      obtain ⟨v,H',os,bare,un,hok',r',q⟩:=h;have q':v = .bl true:=q;subst q';obtain rfl:u = kn true:=r';refine ⟨rfl,⟨fun b x e=>?_,fun b x e=>un.there b x e (by simp)⟩,os,bare⟩
      cases q:hS a o b with
      | none=>exact .inl (un.keep b x e q (by intro z;exact absurd (show b∈([]:List av) from z) (by simp)) (by simp))
      | some u =>
        rcases tJ q with ⟨_,z⟩ | ⟨z,rfl⟩
        . obtain ⟨xs,rfl⟩:=hO u z;have z2:=un.frzs b _ _ q;obtain ⟨e1,_⟩:=hok b _ q;obtain ⟨e2,_⟩:=hok' b _ z2;rw [e] at e1;cases e1;exact .inl e2
        . obtain ⟨more,y⟩:=un.tbls b _ q;have e2:s'.heap.get? b = some { cls:=.none,data:=.fields (#[]++more) }:=hok' b _ y;have e1:=(htm b z).1;rw [e] at e1;cases e1;exact .inr (.inl ⟨(htm b z).2.2,rfl,#[],more,rfl,e2⟩)
 have rl:∀ (H:Hp) (F:av->Prop) (ms:List Int),aG K H F (ms.map .int) (ms.map V.int):=by
  intro H F ms
  induction ms with
  | nil=>exact aG.nil
  | cons m ms ih=>exact aG.cons (dI m) ih
 have hok1:∀ o:Option HO,(∀ u,o = some u->ff P w (hS a o) s₁.heap a u)->HOk P w (hS a o) s₁.heap:=fun o ho b u e=>by
  rcases tJ e with ⟨rfl,z⟩ | ⟨z,rfl⟩
  . exact ho u z
  . exact (htm b z).1
 cases hk:K.lookup a with
 | some x =>
   have e:=KX a x hk;rw [ha] at e;cases e;refine core none (fun u z=>by cases z) (hok1 none fun u z=>by cases z) (fun z=>absurd rfl z) ?_;unfold Rel
   exact ⟨a,ns.map V.int,rfl,.inr ⟨vs.toArray,_,hk,by rw [aD,lenV];exact hl,by simpa using rv⟩,rl _ _ ns⟩
 | none =>
   refine core (some (.frz { cls:=.type "list",data:=.seq vs.toArray } (.lst (ns.map V.int)))) (fun u z=>⟨_,(bt z).symm⟩) (hok1 _ fun u z=>?_) (fun _=>hk) ?_
   . cases z;exact ⟨ha,by rw [ao];exact hl,vs,_,rv,ha⟩
   . unfold Rel;refine ⟨a,ns.map V.int,rfl,.inl ⟨.inr ⟨{ cls:=.type "list",data:=.seq vs.toArray },?_⟩,aT⟩,rl _ _ ns⟩;unfold hS;rw [if_pos ⟨rfl,rfl⟩]
theorem walk_run {l:PySem.W.OpenLaw} {q:aM} {loose:List Str} {XP:(Str->Option af)->bJ->Prop} {YP:bj->bJ->Prop} {d:DefRec} {K:Params->PySem.W.Frag} {G Gd:List Fd} {gl:List D} {gn:List Str} {i:Nat} {fd:Fd} {x:Str}
 (main:∀ ns:List Int,ns.length<=63->run G gl 200 i [.lst (ns.map .int)] = some (.bl true)) (hi:Gd[i]? = some fd) (hp:fd.ps = [x])
 (hn:l.most = some 63) (hdf:d.params.defaults = []) (hY:∀ (w:bj) (h:bJ),YP w h->(K w.params).In h/\∀ t∈Tbs.ts,h.get? t.1 = some (PySem.W.tabObj #[]))
 (hnm:fd.name = d.name) (F:∀ (w:bj) (mg:Str->Option af) (h:bJ),(K w.params).In h->h.Ns mainGlobals mg->Top w (K w.params) mg G Gd gl gn/\∀ t∈Tbs.ts,(K w.params).lookup t.1 = none/\∃ c,PySem.W.codeHdIn (K w.params) c t.1 = true) :
 PySem.W.WalkO q loose XP YP l.row.toRowW d [] (fun f vs=>PySem.call f vs):=by
 have hr:km 200 callerA:=⟨rfl,by decide,by decide⟩;refine Att.attach_call hn hdf fun w s₀ s₁ mg mb fa o pm cd doc a vs ns TT Y ho hd hcd hmg hobj hints hlen hg=>?_;obtain ⟨KX,tabs⟩:=hY w _ Y;obtain ⟨T,tc⟩:=F w mg _ KX TT.T.g;obtain ⟨st,fa',fdd,Dd⟩:=nL T.fns hi
 obtain rfl:fa = fa':=by
  have e:=Dd.mg;rw [hnm,hmg] at e;cases e;rfl
 refine GV KX TT.T.g TT.T.b TT.T.builtins TT.T.nolimit hg TT.T.bmain hobj hints (bc hlen (by decide)) hr (fun t ht=>?_) (fun base hK hB=>?_) (hp▸Dd.bd) (main ns hlen)
 . obtain ⟨h1,c,h2⟩:=tc t ht;exact ⟨tabs t ht,h1,((PySem.W.codeHd_of_K KX h2).tab (tabs t ht)).isCodeTable⟩
 . have:=((EI (P:=l.prog) (w:=w) (base:=base) T hK hB 200).1 i fd st fa fdd hi Dd).1;rw [hp] at this;exact this
section
noncomputable def wQ (K:PySem.W.Frag) (x:Str):Bool:=match PySem.W.nsIn K mainGlobals x with
 | some none=>true
 | _=>false
theorem Ho {K:PySem.W.Frag} {h:bJ} {mg:Str->Option af} (X:K.In h) (G:h.Ns mainGlobals mg) (q:jw.all (wQ K) = true) (x:Str) (hx:x∈jw):mg x = none:=by
 have h:=dY.mp q x hx;unfold wQ at h;split at h
 . exact PySem.W.mg_none_of X G ‹_›
 . cases h
theorem sub_app {a b:List Fd} (i:Nat) (fd:Fd) (h:a[i]? = some fd):(a++b)[i]? = some fd:=by
 rw [aW (aH.mp h).1];exact h
end
end PP
end
section
namespace PP
open PySem L2
theorem uv:∀ {ps:List Str} {us:List af} {x:Str},us.length = ps.length->x∈ps->((ps.zip us).lookup x).isSome = true
 | p::ps,u::us,x,hl,hx=>by
   rw [cD,bT];split
   . rfl
   . rename_i z;refine uv (lZ hl) ((aC.mp hx).resolve_left fun e=>?_);rw [e,beq_self_eq_true] at z
     cases z
 | [],_,x,hl,hx=>by cases hx
 | p::ps,[],x,hl,hx=>by cases hl
theorem uu:∀ {ps:List Str} {us:List af},us.length = ps.length->ps.Nodup->(ps.filterMap fun n=>((ps.zip us).lookup n).map (n,·)) = ps.zip us
 | [],us,hl,_=>by rfl
 | p::ps,[],hl,_=>by cases hl
 | p::ps,u::us,hl,nd=>by
   rw [bZ] at nd;have ih:=uu (lZ hl) nd.2;rw [cD,cn,bT,beq_self_eq_true];dsimp only [Option.map];congr 1
   have h:∀ l:List Str,p∉l->(l.filterMap fun n=>((((p,u)::ps.zip us).lookup n).map (n,·))) = l.filterMap fun n=>((ps.zip us).lookup n).map (n,·):=fun l=>by
    induction l with
    | nil=>intro _;rfl
    | cons n l il =>
      intro hn;rw [aC,not_or] at hn;rw [cn,cn,il hn.2,bT,show (n == p) = false from beq_eq_false_iff_ne.mpr fun e=>hn.1 e.symm]
   exact (h ps nd.1).trans ih
theorem ifF {α:Type} {c:Prop} [Decidable c] {a b x:α} (h:¬ c) (e:b = x):(if c then a else b) = x:=by rw [if_neg h];exact e
theorem qr {fd:dW} {ps:List Str} {us:List af} (h1:fd.params.posonlyargs = []) (h2:fd.params.args.map (·.arg) = ps) (h3:fd.params.kwonlyargs = []) (h4:fd.params.vararg = none) (h5:fd.params.kwarg = none) (h6:fd.defaults = .none) (nd:ps.Nodup) (hl:us.length = ps.length):bindArgs fd ⟨us,[]⟩ = pure (ps.zip us):=by
 have hm:((ps.take ps.length).filter fun n=>((ps.zip us).lookup n).isNone) = []:=by
  rw [List.take_length,List.filter_eq_nil_iff];intro x hx;have:=uv hl hx
  cases e:(ps.zip us).lookup x with
  | none=>rw [e] at this;cases this
  | some v=>simp
 cases fd with
 | mk a b p c d e f df g =>
   cases p with
   | mk p1 p2 p3 p4 p5 p6 p7 =>
     cases h1;cases h3;cases h4;cases h5;cases h6;cases h2;have hl:us.length = (p2.map (·.arg)).length:=hl;refine ifF (α:=Sem _) (fun z=>?_) ?_
     . have z:(decide (us.length > (p2.map (·.arg)).length) && true) = true:=z;rw [hl,jE,decide_eq_true_eq] at z;exact cu _ z
     generalize hd:List.drop _ _ = dd;obtain rfl:dd = []:=hd.symm.trans List.drop_nil;refine ifF (α:=Sem _) (fun z=>Bool.noConfusion ((congrArg (fun l:List Str=>!l.isEmpty) hm).symm.trans z)) ?_;generalize hz:List.zip (List.drop _ _) ([]:List af) = zz;obtain rfl:zz = []:=hz.symm.trans jc;have e:(p2.map Arg.arg++[]).filterMap (fun n=>(((p2.map Arg.arg).zip us).lookup n).map (n,·)) = (p2.map Arg.arg).zip us:=by rw [bS];exact uu hl nd
     exact congrArg (pure:_->Sem _) e
noncomputable def okD (d:Fd) (a:oy) (s:dS):Bool :=
 a.posonlyargs.isEmpty && (a.kwonlyargs.isEmpty && (a.vararg.isNone && (a.kwarg.isNone && (decide (a.args.map (·.arg) = d.ps) && (decide (s.kind = .function) && ((!s.isCoroutine) && ((!s.isGenerator) && (decide (d.ps++d.loc).Nodup && (d.ps.all (fun x=>decide (s.names.lookup x = some .local) || decide (s.names.lookup x = some .cell)) && s.names.all fun y=>decide (y.2≠.free))))))))))
theorem Dz {d:Fd} {st:cY} (h:okD d (gz st) (bA st) = true):mR (d.ps++d.loc) d.ps (bA st):=by
 simp only [okD,aa,cw,decide_eq_true_eq,dY,EV] at h;obtain ⟨_,_,_,_,_,k,c,g,nd,p,f⟩:=h;exact ⟨k,c,g,nd,List.take_left,p,f⟩
theorem DA {K:PySem.W.Frag} {d:Fd} {st:cY} {x:Str} {f:av} {fd:dW} (F:Fun K x x st f fd) (h:okD d (gz st) (bA st) = true):Binds K fd d.ps []:=by
 simp only [okD,aa,decide_eq_true_eq,List.isEmpty_iff,cO] at h;obtain ⟨h1,h2,h3,h4,h5,_,_,_,nd,_⟩:=h;exact F.binds fun kV doc pm an cdv ct us hl=>qr h1 h5 h2 h3 h4 rfl (jy.mp nd).1 hl
section
variable [Tbs] {K:PySem.W.Frag} {h:bJ} {w:bj} {mg:Str->Option af} {cf:List (Str × List Str)} {gn:List Str} {tp:Nat->cY} {G Gd:List Fd} {gl:List D}
inductive Hds (K:PySem.W.Frag) (mg:Str->Option af) (cf:List (Str × List Str)) (gn:List Str) (tp:Nat->cY):List Fd->List (String × Nat)->Prop
 | nil:Hds K mg cf gn tp [] []
 | own {d:Fd} {i:String × Nat} {r:List Fd} {is:List (String × Nat)} (e:∃ st a fdd,Dn K mg cf gn d st a fdd) (t:Hds K mg cf gn tp r is):Hds K mg cf gn tp (d::r) (i::is)
 | cons {d:Fd} {x:String} {i:Nat} {f:av} {oc:af} {od an:Option av} {osl:Array (Option af)} {kV doc pm cdv ct:af} {r:List Fd} {is:List (String × Nat)} (a:PySem.W.nsIn K mainGlobals (.ofString x) = some (some (.ref f))) (l:K.lookup f = some ⟨oc,od,.func (PySem.W.fnOf (.ofString x) (.ofString x) (gz (tp i)) (eA (tp i)) (bA (tp i)) .none kV doc pm an cdv ct),osl⟩)
   (c:PySem.W.codeIn K cdv (.ofString x) = true) (k:PySem.W.keepIn K (.ref f) = true) (z:(decide (d.name = .ofString x) && (okD d (gz (tp i)) (bA (tp i)) && vD ⟨d.ps++d.loc,bA (tp i),cf,gn⟩ d.body (eA (tp i)))) = true) (t:Hds K mg cf gn tp r is):Hds K mg cf gn tp (d::r) ((x,i)::is)
theorem He (X:K.In h) (N:h.Ns mainGlobals mg) {l:List Fd} {is:List (String × Nat)} (H:Hds K mg cf gn tp l is):yV K mg cf gn l:=by
 induction H with
 | nil=>trivial
 | own e t ih=>exact ⟨e,ih⟩
 | cons a l c k z t ih =>
   rw [aa,decide_eq_true_eq,aa] at z;obtain ⟨z0,z1,z2⟩:=z;rw [<- z0] at a l c;have F:=Ed l c k;exact ⟨⟨_,_,_,F,PySem.W.mg_of X N a,Dz z1,.inl z2,DA F z1⟩,ih⟩
mutual
inductive InK (K:PySem.W.Frag):D->af->Prop
 | str {x:Str} {t:Tok}:InK K (.str x) (.str x t)
 | int {x:Int} {t:Tok}:InK K (.int x) (.int x t)
 | tup {ds:List D} {a:av} {oD:Option av} {oS:Array (Option af)} {n:Nat} {vs:Array af} (l:K.lookup a = some ⟨.type "tuple",oD,.seq vs n,oS⟩) (q:InKs K ds vs.toList) (z:vs.size<=99):InK K (.tup ds) (.ref a)
inductive InKs (K:PySem.W.Frag):List D->List af->Prop
 | nil:InKs K [] []
 | cons {d:D} {v:af} {ds:List D} {vs:List af} (e:InK K d v) (t:InKs K ds vs):InKs K (d::ds) (v::vs)
end
mutual
theorem InK.rel:∀ {d:D} {u:af},InK K d u->∃ v,RelV v u/\∀ H F,Rel K H F d v
 | _,_,.str=>⟨.str _,⟨_,rfl⟩,fun H F=>hV _⟩
 | _,_,.int=>⟨.int _,⟨_,rfl⟩,fun H F=>dI _⟩
 | _,_,.tup l q z=>by
   obtain ⟨vs,h1,h2⟩:=q.rel;refine ⟨.ref _,rfl,fun H F=>?_⟩;unfold Rel;exact ⟨_,vs,rfl,.inr ⟨_,_,_,l,rfl,rfl,bc z (by decide),h1⟩,h2 H F⟩
theorem InKs.rel:∀ {ds:List D} {us:List af},InKs K ds us->∃ vs,Vals vs us/\∀ H F,aG K H F ds vs
 | _,_,.nil=>⟨[],.nil,fun _ _=>aG.nil⟩
 | _,_,.cons e t=>by
   obtain ⟨v,h1,h2⟩:=e.rel;obtain ⟨vs,h3,h4⟩:=t.rel;exact ⟨v::vs,.cons h1 h3,fun H F=>aG.cons (h2 H F) (h4 H F)⟩
end
inductive Gls (K:PySem.W.Frag):List Str->List D->Prop
 | nil:Gls K [] []
 | cons {x:Str} {d:D} {v:af} {xs:List Str} {ds:List D} (a:PySem.W.nsIn K mainGlobals x = some (some v)) (e:InK K d v) (t:Gls K xs ds):Gls K (x::xs) (d::ds)
theorem yG (X:K.In h) (N:h.Ns mainGlobals mg) (H:Gls K gn gl):∀ (g:Nat) (x:Str),gn[g]? = some x->∃ d,gl[g]? = some d/\∃ u v,mg x = some u/\RelV v u/\∀ H F,Rel K H F d v:=by
 induction H with
 | nil=>intro g x e;cases g<;>cases e
 | cons a e t ih =>
   intro g x z
   cases g with
   | zero =>
     cases z;obtain ⟨v,h1,h2⟩:=e.rel
     exact ⟨_,rfl,_,v,PySem.W.mg_of X N a,h1,h2⟩
   | succ g=>exact ih g x z
theorem DL {l:List (Nat × Lam)} {k:Nat} {L:Lam} (h:l.lookup k = some L):(k,L)∈l:=by
 induction l with
 | nil=>cases h
 | cons p l ih =>
   rw [bT] at h;split at h
   . rename_i z;cases h;rw [eq_of_beq z];exact ay
   . exact au _ (ih h)
theorem top_mk (X:K.In h) (N:h.Ns mainGlobals mg) {is:List (String × Nat)} (H:Hds K mg (oG Gd) gn tp Gd is) (sub:∀ (i:Nat) (fd:Fd),Gd[i]? = some fd->G[i]? = some fd) (few:G.length<=sN) (lams:∀ p∈Tbs.lams,Ln G Gd gn p.1 p.2) (hb:jw.all (wQ K) = true) (hg:Gls K gn gl)
 (gds:∀ (n:Str) (l:List (Str × Int)),Tbs.gds.lookup n = some l->∃ a,mg n = some (.ref a)/\GdK w K a l):Top w K mg G Gd gl gn :=
 ⟨He X N H,sub,few,fun k L e=>lams (k,L) (DL e),Ho X N hb,fun g x d h1 h2=>by
   obtain ⟨d',e,r⟩:=yG X N hg g x h1;rw [h2] at e;cases e;exact r,fun g x h1=>by
   obtain ⟨d',e,r⟩:=yG X N hg g x h1;exact ⟨d',e⟩,gds⟩
end
end PP
end
section
namespace PP
open PySem
section
variable {cx:Cl} {δ:Loc}
noncomputable def wEm (f:D->Loc->Option (List D × Loc)) (ds:List D) (δ:Loc) (Q:List D->Loc->Prop):Prop:=∃ ys δ',gf f ds δ = some (ys,δ')/\Q ys δ'
theorem xJ:wE cx (.sset k tg1 src1 tg2 src2 ifs elt) δ Q↔wI cx src1 δ fun ds δ1=>wEm (outF cx k tg1 tg2 src2 ifs elt) ds δ1 fun ys δ2=>∃ xs,fJ ys = some xs/\(xs.length < 4000/\(gI xs).length < 64)/\Q (.lst (eO ((gI xs).map .str))) δ2:=by
 unfold wE wI wEm;constructor
 . rintro ⟨d,δ',e,q⟩
   letI:Tbs:=⟨[],[],[]⟩
   obtain ⟨ds,δ1,ys,xs,e1,e2,e3,h1,h2,rfl⟩:=xP e;exact ⟨ds,δ1,e1,ys,δ',e2,xs,e3,⟨h1,h2⟩,q⟩
 . rintro ⟨ds,δ1,e1,ys,δ2,e2,xs,e3,hh,q⟩;refine ⟨_,δ2,?_,q⟩;unfold evE;show ((evI cx src1 δ).bind _) = _;rw [e1];show ((gf (outF cx k tg1 tg2 src2 ifs elt) ds δ1).bind _) = _;rw [e2];show (match fJ ys with | some xs=>if xs.length < 4000/\(gI xs).length < 64 then some (D.lst (eO ((gI xs).map .str)),δ2) else none | none=>none) = _;rw [e3];exact if_pos hh
theorem pD {α:Type} (g:α->D) (h:α->List D):∀ (xs:List α),(∀ x∈xs,wTg (δ++aN k .no) tg1 (g x) fun δa=>wI cx src2 δa fun es δb=>wEm (inF cx tg2 ifs elt) es δb fun zs δc=>zs = h x/\δc.take δ.length = δ) ->
 Q (xs.flatMap h) δ->wEm (outF cx k tg1 tg2 src2 ifs elt) (xs.map g) δ Q
 | [],_,q=>⟨[],δ,rfl,q⟩
 | x::xs,hx,q=>by
   obtain ⟨δa,e1,es,δb,e2,zs,δc,e3,rfl,t⟩:=hx x ay;obtain ⟨ys,δ',e4,q'⟩:=pD (k:=k) (tg1:=tg1) (tg2:=tg2) (src2:=src2) (ifs:=ifs) (elt:=elt) (Q:=fun ys δ'=>Q (h x++ys) δ') g h xs (fun z hz=>hx z (au _ hz)) (by rw [oi] at q;exact q);refine ⟨h x++ys,δ',?_,q'⟩
   have eo:outF cx k tg1 tg2 src2 ifs elt (g x) δ = some (h x,δ):=by
    unfold outF;simp only [ag,e1,cC,e2,e3,t,dA]
   rw [aU];unfold gf;simp only [ag,eo,cC,e4,dA]
theorem oN {α:Type} (g:α->D) (p:α->Bool) (v:α->D) (P:Loc->Prop):∀ (xs:List α) (δ:Loc),(∀ x∈xs,∀ δ,P δ->wTg δ tg (g x) fun δ2=>wG cx ifs δ2 fun b δ3=>b = p x/\if b = true then wE cx elt δ3 fun y δ4=>y = v x/\P δ4 else P δ3)->P δ ->
 (∀ δ',P δ'->Q ((xs.filter p).map v) δ')->wEm (inF cx tg ifs elt) (xs.map g) δ Q
 | [],δ,_,hp,q=>⟨[],δ,rfl,q δ hp⟩
 | x::xs,δ,hx,hp,q=>by
   obtain ⟨δ2,e1,b,δ3,e2,rfl,e3⟩:=hx x ay δ hp
   cases hb:p x with
   | true =>
     rw [hb] at e2 e3;rw [if_pos rfl] at e3;obtain ⟨y,δ4,e4,rfl,p4⟩:=e3;obtain ⟨ys,δ',e5,q'⟩:=oN (tg:=tg) (ifs:=ifs) (elt:=elt) (Q:=fun ys δ'=>Q (v x::ys) δ') g p v P xs δ4 (fun z hz=>hx z (au _ hz)) p4 (fun δ' z=>by have:=q δ' z;rw [vP hb] at this;exact this);refine ⟨v x::ys,δ',?_,q'⟩
     have eo:inF cx tg ifs elt (g x) δ = some ([v x],δ4):=by
      unfold inF;simp only [ag,e1,cC,e2,if_true,e4,dA]
     rw [aU];unfold gf
     simp only [ag,eo,cC,e5,dA,fH,cQ]
   | false =>
     rw [hb] at e2 e3;rw [if_neg aq] at e3;obtain ⟨ys,δ',e5,q'⟩:=oN (tg:=tg) (ifs:=ifs) (elt:=elt) (Q:=Q) g p v P xs δ3 (fun z hz=>hx z (au _ hz)) e3 (fun δ' z=>by have:=q δ' z;rw [vQ (by simp [hb])] at this;exact this);refine ⟨ys,δ',?_,q'⟩
     have eo:inF cx tg ifs elt (g x) δ = some ([],δ3):=by
      unfold inF;simp only [ag,e1,cC,e2,aZ,if_false,dA]
     rw [aU];unfold gf;simp only [ag,eo,cC,e5,dA,cQ]
end
theorem strs_map (xs:List Str):fJ (xs.map .str) = some xs:=by
 induction xs with
 | nil=>rfl
 | cons x xs ih=>simp [fJ,ih]
theorem DH:y∈jW ts x↔y∈ts\/y = x:=by
 unfold jW;split
 . rename_i h;exact ⟨.inl,fun z=>z.elim id fun e=>e▸h⟩
 . simp
theorem rF:∀ (xs ts:List Str),y∈xs.foldl jW ts↔y∈ts\/y∈xs
 | [],ts=>by simp
 | x::xs,ts=>by
   rw [kK,rF xs,DH,aC];constructor
   . rintro ((h | h) | h)
     . exact .inl h
     . exact .inr (.inl h)
     . exact .inr (.inr h)
   . rintro (h | h | h)
     . exact .inl (.inl h)
     . exact .inl (.inr h)
     . exact .inr h
theorem vd {y:Str} {xs:List Str}:y∈gI xs↔y∈xs:=by
 unfold gI;rw [rF];simp
theorem wU (h:ts.Nodup):(jW ts x).Nodup:=by
 unfold jW;split
 . exact h
 . rename_i hx;rw [jy];refine ⟨h,by simp,fun a ha b hb=>?_⟩;rw [bu] at hb;intro e;exact hx (by rw [<- hb,<- e];exact ha)
theorem wR (xs:List Str):(gI xs).Nodup:=by
 unfold gI
 suffices h:∀ (xs ts:List Str),ts.Nodup->(xs.foldl jW ts).Nodup from h xs [] (by simp)
 intro xs
 induction xs with
 | nil=>intro ts h;exact h
 | cons x xs ih=>intro ts h;exact ih _ (wU h)
noncomputable def sdT (xs:List Str):List Str:=((fN (gI xs)).choose)
theorem CD (xs:List Str):eO ((gI xs).map .str) = (sdT xs).map .str:=(fN (gI xs)).choose_spec.1
theorem sE:y∈sdT xs↔y∈xs:=by
 rw [show y∈sdT xs↔y∈gI xs from (fN (gI xs)).choose_spec.2.1.mem_iff,vd]
theorem FX (xs:List Str):(sdT xs).length = (gI xs).length:=(fN (gI xs)).choose_spec.2.1.length_eq
theorem sub_len:∀ {l ns:List Str},l.Nodup->(∀ x∈l,x∈ns)->l.length<=ns.length
 | [],_,_,_=>cZ _
 | x::l,ns,h,hs=>by
   rw [bZ] at h;have hx:=hs x ay;have ih:=sub_len (l:=l) (ns:=ns.erase x) h.2 fun y hy=>(List.mem_erase_of_ne fun e=>h.1 (by rw [<- e];exact hy)).mpr (hs y (au _ hy));rw [List.length_erase_of_mem hx] at ih;have:0 < ns.length:=List.length_pos_of_mem hx;rw [ak];omega
theorem nI {xs ns:List Str} (h:∀ x∈xs,x∈ns):(gI xs).length<=ns.length:=by
 have h1:=wR xs;have h2:∀ x∈gI xs,x∈ns:=fun x hx=>h x (vd.mp hx);exact sub_len h1 h2
end PP
end
section
namespace PP
open PySem L2
noncomputable def iz:Nat->Ss->Ss
 | 0,_=>.nil
 | _,.nil=>.nil
 | k+1,.cons s ss=>.cons s (iz k ss)
noncomputable def cM:Nat->Ss->Ss
 | 0,ss=>ss
 | _,.nil=>.nil
 | k+1,.cons _ ss=>cM k ss
noncomputable def nxS (R:PP.Loc->Prop) (Q:Out->Prop):Out->Prop
 | .nx δ=>R δ
 | o=>Q o
theorem xI (h:wS cx s δ P) (k:∀ o,P o->Q o):wS cx s δ Q:=let ⟨o,e,p⟩:=h;⟨o,e,k o p⟩
theorem fY {R:PP.Loc->Prop}:∀ (k:Nat) (ss:Ss) (δ:PP.Loc),wSs cx (iz k ss) δ (nxS R Q)->(∀ δ',R δ'->wSs cx (cM k ss) δ' Q)->wSs cx ss δ Q
 | 0,ss,δ,h,q=>by
   unfold iz at h
   exact q δ (hJ.mp h)
 | _+1,.nil,δ,h,q=>by
   unfold iz at h;unfold cM at q
   exact q δ (hJ.mp h)
 | k+1,.cons s ss,δ,h,q=>by
   unfold iz at h;unfold cM at q;refine bD.mpr (xI (bD.mp h) fun o p=>?_)
   cases o with
   | nx δ1=>exact fY k ss δ1 p q
   | rt d δ1=>exact p
   | ro d δ1=>exact p
theorem bB (k:Nat) (δ':PP.Loc) (h:dH cx (iz k ss) δ = some (.nx δ')) (q:wSs cx (cM k ss) δ' Q):wSs cx ss δ Q:=fY (R:=fun d=>d = δ') k ss δ ⟨.nx δ',h,rfl⟩ fun _ e=>e▸q
theorem Bq (P:Bool->Prop) (h:wT cx c δ fun k δ1=>δ1 = δ0/\P k) (ha:P true->wSs cx a δ0 Q) (hb:P false->wSs cx b δ0 Q):wS cx (.ifs c a b) δ Q:=by
 obtain ⟨k,δ1,e,rfl,p⟩:=h;refine vY.mpr ⟨k,δ1,e,?_⟩;cases k
 . exact hb p
 . exact ha p
theorem kg {c A B:Prop} [Decidable c] (h1:c->A) (h2:¬ c->B):if c then A else B:=by
 by_cases h:c
 . rw [if_pos h];exact h1 h
 . rw [if_neg h];exact h2 h
theorem DQ {a b X Y:Prop} [Decidable a] [Decidable b] (hX:a\/b->X) (hY:¬ a->¬ b->Y):if a then X else if b then X else Y:=by
 by_cases ha:a
 . rw [if_pos ha];exact hX (.inl ha)
 . rw [if_neg ha];by_cases hb:b
   . rw [if_pos hb];exact hX (.inr hb)
   . rw [if_neg hb];exact hY ha hb
noncomputable def vJ:Ss->Ss->Ss
 | .nil,r=>r
 | .cons s t,r=>.cons s (vJ t r)
theorem rZ {r:Ss}:∀ {a:Ss} {δ:PP.Loc},wSs cx (vJ a r) δ Q->wSs cx a δ (nW cx r Q)
 | .nil,δ,h=>hJ.mpr (jk.mpr h)
 | .cons s t,δ,h=>bD.mpr (xI (bD.mp h) fun o p=>by
   cases o with
   | nx δ1=>exact rZ p
   | rt d δ1=>exact p
   | ro d δ1=>exact p)
theorem dZ (p:Bool) (h:evT cx c δ = some (p,δ)) (ha:p = true->wSs cx (vJ a r) δ Q) (hb:p = false->wSs cx (vJ b r) δ Q):wSs cx (.cons (.ifs c a b) r) δ Q :=
 bD.mpr (vY.mpr ⟨p,δ,h,by cases p;exact rZ (hb rfl);exact rZ (ha rfl)⟩)
variable {G:List Fd} {gl:List D} {n f:Nat}
theorem Bn (as:List D) (δ1:PP.Loc) (h:fW ⟨PP.run G gl n,gl,hfs G⟩ es δ = some (as,δ1)) (hc:fh G gl n f as fun d=>∃ δ2,dv δ1 tg d = some δ2/\wSs ⟨PP.run G gl n,gl,hfs G⟩ r δ2 Q):wSs ⟨PP.run G gl n,gl,hfs G⟩ (.cons (.asg tg (.call f es)) r) δ Q :=
 bD.mpr (vZ.mpr (sj.mpr ⟨as,δ1,h,mZ.mpr hc⟩))
theorem Bm (as:List D) (δ1:PP.Loc) (h:fW ⟨PP.run G gl n,gl,hfs G⟩ es δ = some (as,δ1)) (hc:fh G gl n f as Q):wSs ⟨PP.run G gl n,gl,hfs G⟩ (.cons (.ret (.call f es)) r) δ (retS Q) :=
 bD.mpr (Bp.mpr (sj.mpr ⟨as,δ1,h,mZ.mpr hc⟩))
theorem eE (as:List D) (h:fW ⟨PP.run G gl n,gl,hfs G⟩ es δ = some (as,δ)) (hc:fh G gl n f as fun d=>∃ δ2,dv δ tg d = some δ2/\wSs ⟨PP.run G gl n,gl,hfs G⟩ r δ2 Q):wSs ⟨PP.run G gl n,gl,hfs G⟩ (.cons (.asg tg (.call f es)) r) δ Q:=Bn as δ h hc
theorem iq (as:List D) (h:fW ⟨PP.run G gl n,gl,hfs G⟩ es δ = some (as,δ)) (hc:fh G gl n f as Q):wSs ⟨PP.run G gl n,gl,hfs G⟩ (.cons (.ret (.call f es)) r) δ (retS Q):=Bm as δ h hc
theorem xH (d:D) (h:evE cx e δ = some (d,δ)) (q:∃ δ2,dv δ tg d = some δ2/\wSs cx r δ2 Q):wSs cx (.cons (.asg tg e) r) δ Q:=bD.mpr (vZ.mpr ⟨d,δ,h,q⟩)
theorem Ej (ha:evE cx a δ = some (x,δ)) (hb:evE cx b δ = some (y,δ)) (h:ixD x y = some z):evE cx (.ix a b) δ = some (z,δ):=by
 simp only [evE,ha,hb,h,ag,cC];rfl
theorem yI (ha:evE cx a δ = some (x,δ)) (hb:evE cx b δ = some (y,δ)) (h:qo op x y = some p):evT cx (.cmp op a b) δ = some (p,δ):=by
 simp only [evT,ha,hb,h,ag,cC];rfl
theorem vX (d:D) (h:evE cx e δ = some (d,δ)) (ho:δ[i]? = some (.own ds)) (hl:ds.length < sizeLine) (q:wSs cx r (δ.set i (.own (ds++[d]))) Q):wSs cx (.cons (.append i e) r) δ Q:=by
 have hi:i < δ.length:=(aH.mp ho).1;refine bD.mpr (qQ.mpr ?_);unfold qD;rw [ho];refine ⟨d,δ,h,?_⟩;dsimp only;rw [ho];exact ⟨hl,hi,q⟩
noncomputable def Hf:Ss->Ss
 | .cons (.for_ _ _ b) _=>b
 | _=>.nil
theorem Ei (ha:evT cx a δ = some (p,δ)) (hb:evT cx b δ = some (q,δ)):evT cx (.or a b) δ = some (p || q,δ):=by
 simp only [evT,ha,ag,cC];cases p
 . exact hb
 . rfl
end PP
end
section
namespace P1
open PySem L2 PP
noncomputable def top (i:Nat):cY:=PySem.Challenge.pw_cutless_k11_fits.main.body.getD i (.Pass ⟨0,0,0,0⟩)
noncomputable def vw:Fd:=⟨"inside",["A"],[],
 (.cons (.ret (.ite (.cmp .isin (.ix (.var 0) (.int 0)) (.glob 0)) (.tup .nil) (.sl (.var 0) (.yes (.int 1)) .no)))
 .nil),false⟩
noncomputable def jU:Fd:=⟨"is_place",["term"],[],
 (.cons (.ret (.isdig 0))
 .nil),false⟩
noncomputable def dP:Fd:=⟨"words_within",["A"],["found","B"],
 (.cons (.ifs (.cmp .eq (.ix (.var 0) (.int 0)) (.str "word"))
 (.cons (.ret (.lst (.cons (.var 0) .nil)))
 .nil)
 .nil)
 (.cons (.new 1 (.lst .nil))
 (.cons (.for_ (.nm 2) (.sq (.call 0 (.cons (.var 0) .nil)))
 (.cons (.extend 1 (.call 2 (.cons (.var 2) .nil)))
 .nil))
 (.cons (.ret (.var 1))
 .nil)))),false⟩
noncomputable def jS:Fd:=⟨"names_of",["A"],[],
 (.cons (.ret (.sset 2 (.nm 1) (.sq (.call 2 (.cons (.var 0) .nil))) (.nm 2) (.sq (.ix (.var 1) (.int 2))) (.yes (.not (.call 1 (.cons (.var 2) .nil)))) (.var 2)))
 .nil),false⟩
noncomputable def dn:Fd:=⟨"with_terms",["A","depth","change"],["kind","inner"],
 (.cons (.asg (.nm 3) (.ix (.var 0) (.int 0)))
 (.cons (.ifs (.cmp .eq (.var 3) (.str "word"))
 (.cons (.ret (.tup (.cons (.var 3) (.cons (.ix (.var 0) (.int 1)) (.cons (.blt .toTup (.cons (.comp 1 (.nm 5) (.sq (.ix (.var 0) (.int 2))) .no (.callv 2 (.cons (.var 5) (.cons (.var 1) .nil)))) .nil)) .nil)))))
 .nil)
 .nil)
 (.cons (.asg (.nm 4) (.ite (.cmp .isin (.var 3) (.glob 1)) (.bin .add (.var 1) (.int 1)) (.var 1)))
 (.cons (.ret (.bin .add (.tup (.cons (.var 3) .nil)) (.blt .toTup (.cons (.comp 1 (.nm 5) (.sq (.call 0 (.cons (.var 0) .nil))) .no (.callF 4 (.cons (.var 5) (.cons (.var 4) .nil)) 2)) .nil))))
 .nil)))),true⟩
noncomputable def jv:Fd:=⟨"put_in",["body","name"],[],
 (.cons (.retL 4 (.cons (.var 0) (.cons (.int 0) .nil)) 44 [1])
 .nil),false⟩
noncomputable def ib:Fd:=⟨"sorted_row",["signed"],["kept","each"],
 (.cons (.new 1 (.lst .nil))
 (.cons (.for_ (.nm 2) (.sq (.blt .sorted (.cons (.var 0) .nil)))
 (.cons (.ifs (.or (.not (.var 1)) (.cmp .ne (.ix (.pk 1) (.neg (.int 1))) (.var 2)))
 (.cons (.append 1 (.var 2))
 .nil)
 .nil)
 .nil))
 (.cons (.ret (.blt .toTup (.cons (.pk 1) .nil)))
 .nil))),false⟩
noncomputable def tV:Fd:=⟨"more",["row","added"],[],
 (.cons (.ret (.call 6 (.cons (.bin .add (.blt .toLst (.cons (.var 0) .nil)) (.blt .toLst (.cons (.var 1) .nil))) .nil)))
 .nil),false⟩
noncomputable def mI:Fd:=⟨"closes",["row"],[],
 (.cons (.ifs (.or (.cmp .isin (.tup (.cons (.str "right") (.cons (.tup (.cons (.str "yes") .nil)) .nil))) (.var 0)) (.cmp .isin (.tup (.cons (.str "left") (.cons (.tup (.cons (.str "no") .nil)) .nil))) (.var 0)))
 (.cons (.ret (.bl true))
 .nil)
 .nil)
 (.cons (.ret (.blt .any (.cons (.comp 2 (.tp [1,2]) (.sq (.var 0)) .no (.and (.cmp .eq (.var 1) (.str "left")) (.cmp .isin (.tup (.cons (.str "right") (.cons (.var 2) .nil))) (.var 0)))) .nil)))
 .nil)),false⟩
noncomputable def jT:Fd:=⟨"names_in",["row"],[],
 (.cons (.ret (.sset 3 (.tp [1,2]) (.sq (.var 0)) (.nm 3) (.sq (.call 3 (.cons (.var 2) .nil))) .no (.var 3)))
 .nil),false⟩
noncomputable def mH:Fd:=⟨"other_side",["side"],[],
 (.cons (.ret (.ite (.cmp .eq (.var 0) (.str "left")) (.str "right") (.str "left")))
 .nil),false⟩
noncomputable def ka:Fd:=⟨"signed_within",["side","A"],["signed"],
 (.cons (.cmp true 2 (.comp 1 (.nm 3) (.sq (.call 0 (.cons (.var 1) .nil))) .no (.tup (.cons (.var 0) (.cons (.var 3) .nil)))))
 (.cons (.ifs (.cmp .isin (.ix (.var 1) (.int 0)) (.tup (.cons (.str "not") (.cons (.str "if") .nil))))
 (.cons (.setix 2 (.int 0) (.tup (.cons (.call 10 (.cons (.var 0) .nil)) (.cons (.ix (.var 1) (.int 1)) .nil))))
 .nil)
 .nil)
 (.cons (.ret (.var 2))
 .nil))),false⟩
noncomputable def kW:Fd:=⟨"parts",["side","A","name"],["kind","signed"],
 (.cons (.asg (.nm 3) (.ix (.var 1) (.int 0)))
 (.cons (.ifs (.cmp .isin (.var 3) (.glob 0))
 (.cons (.ret (.lst .nil))
 .nil)
 .nil)
 (.cons (.ifs (.cmp .isin (.var 3) (.glob 1))
 (.cons (.ret (.lst (.cons (.lst (.cons (.tup (.cons (.var 0) (.cons (.call 5 (.cons (.ix (.var 1) (.int 1)) (.cons (.var 2) .nil))) .nil))) .nil)) .nil)))
 .nil)
 .nil)
 (.cons (.asg (.nm 4) (.call 11 (.cons (.var 0) (.cons (.var 1) .nil))))
 (.cons (.ifs (.cmp .isin (.tup (.cons (.var 0) (.cons (.var 3) .nil))) (.glob 2))
 (.cons (.ret (.comp 1 (.nm 5) (.sq (.var 4)) .no (.lst (.cons (.var 5) .nil))))
 .nil)
 .nil)
 (.cons (.ret (.lst (.cons (.var 4) .nil)))
 .nil)))))),false⟩
noncomputable def vt:Fd:=⟨"is_own",["side","A"],[],
 (.cons (.ret (.cmp .isin (.tup (.cons (.var 0) (.cons (.ix (.var 1) (.int 0)) .nil))) (.glob 3)))
 .nil),false⟩
noncomputable def kX:Fd:=⟨"kids_of",["tree"],[],
 (.cons (.ret (.ite (.cmp .eq (.var 0) (.glob 4)) (.tup .nil) (.ix (.var 0) (.neg (.int 1)))))
 .nil),false⟩
noncomputable def gB:Fd:=⟨"added_above",["tree"],[],
 (.cons (.ifs (.cmp .eq (.ix (.var 0) (.int 0)) (.str "rule"))
 (.cons (.ret (.call 12 (.cons (.ix (.var 0) (.int 1)) (.cons (.ix (.var 0) (.int 2)) (.cons (.ix (.var 0) (.int 3)) .nil)))))
 .nil)
 .nil)
 (.cons (.ifs (.cmp .eq (.ix (.var 0) (.int 0)) (.str "cut"))
 (.cons (.ret (.lst (.cons (.lst (.cons (.tup (.cons (.str "right") (.cons (.ix (.var 0) (.int 1)) .nil))) .nil)) (.cons (.lst (.cons (.tup (.cons (.str "left") (.cons (.ix (.var 0) (.int 1)) .nil))) .nil)) .nil))))
 .nil)
 .nil)
 (.cons .bad
 .nil))),false⟩
noncomputable def ic:Fd:=⟨"rows_above",["row","tree"],[],
 (.cons (.ret (.comp 1 (.nm 2) (.sq (.call 15 (.cons (.var 1) .nil))) .no (.call 7 (.cons (.var 0) (.cons (.var 2) .nil)))))
 .nil),false⟩
noncomputable def iU:Fd:=⟨"stands_at",["row","tree"],["side","A","name"],
 (.cons (.asg (.tp [2,3,4]) (.sl (.var 1) (.yes (.int 1)) (.yes (.int 4))))
 (.cons (.ifs (.cmp .notin (.tup (.cons (.var 2) (.cons (.var 3) .nil))) (.var 0))
 (.cons (.ret (.bl false))
 .nil)
 .nil)
 (.cons (.ifs (.cmp .ne (.cmp .isin (.ix (.var 3) (.int 0)) (.glob 1)) (.cmp .ne (.var 4) (.str "")))
 (.cons (.ret (.bl false))
 .nil)
 .nil)
 (.cons (.ret (.not (.and (.call 13 (.cons (.var 2) (.cons (.var 3) .nil))) (.cmp .isin (.var 4) (.call 9 (.cons (.var 0) .nil))))))
 .nil)))),false⟩
noncomputable def kE:Fd:=⟨"fits",["row","tree"],["rows","kids","above","kid"],
 (.cons (.ifs (.cmp .eq (.var 1) (.glob 4))
 (.cons (.ret (.call 8 (.cons (.var 0) .nil)))
 .nil)
 .nil)
 (.cons (.ifs (.and (.cmp .eq (.ix (.var 1) (.int 0)) (.str "rule")) (.not (.call 17 (.cons (.var 0) (.cons (.var 1) .nil)))))
 (.cons (.ret (.bl false))
 .nil)
 .nil)
 (.cons (.asg (.nm 2) (.call 16 (.cons (.var 0) (.cons (.var 1) .nil))))
 (.cons (.asg (.nm 3) (.call 14 (.cons (.var 1) .nil)))
 (.cons (.ifs (.or (.not (.var 2)) (.cmp .ne (.blt .len (.cons (.var 2) .nil)) (.blt .len (.cons (.var 3) .nil))))
 (.cons (.ret (.bl false))
 .nil)
 .nil)
 (.cons (.forZ (.tp [4,5]) (.cons (.var 2) (.cons (.var 3) .nil))
 (.cons (.ifs (.not (.call 18 (.cons (.var 4) (.cons (.var 5) .nil))))
 (.cons (.ret (.bl false))
 .nil)
 .nil)
 .nil))
 (.cons (.ret (.bl true))
 .nil))))))),false⟩
noncomputable def iY:Fd:=⟨"_law_once",["_law_some"],["_law_row","_law_one"],
 (.cons (.new 1 (.lst .nil))
 (.cons (.for_ (.nm 2) (.sq (.blt .sorted (.cons (.var 0) .nil)))
 (.cons (.ifs (.cmp .notin (.var 2) (.sl (.pk 1) (.yes (.neg (.int 1))) .no))
 (.cons (.append 1 (.var 2))
 .nil)
 .nil)
 .nil))
 (.cons (.ret (.blt .toTup (.cons (.pk 1) .nil)))
 .nil))),false⟩
noncomputable def jb:Fd:=⟨"_law_cell",["_law_script","_law_k"],["_law_number"],
 (.cons (.ifs (.cmp .lt (.var 1) (.blt .len (.cons (.var 0) .nil)))
 (.cons (.ret (.ix (.var 0) (.var 1)))
 .nil)
 .nil)
 (.cons (.asg (.nm 2) (.bin .add (.bin .mul (.var 1) (.int 7919)) (.int 5)))
 (.cons (.ifs (.cmp .gt (.blt .len (.cons (.var 0) .nil)) (.int 0))
 (.cons (.asg (.nm 2) (.bin .add (.bin .mod (.bin .mul (.ix (.var 0) (.bin .mod (.bin .mul (.var 1) (.int 7)) (.blt .len (.cons (.var 0) .nil)))) (.int 48271)) (.int 2147483647)) (.bin .mul (.var 1) (.int 104729))))
 .nil)
 .nil)
 (.cons (.ret (.bin .mod (.bin .mul (.var 2) (.var 2)) (.int 2147483629)))
 .nil)))),false⟩
noncomputable def iW:Fd:=⟨"_law_text",["_law_cell_here","_law_filler","_law_k"],["_law_size","_law_at"],
 (.cons (.asg (.nm 3) (.bin .add (.int 1) (.bin .mod (.var 0) (.int 8))))
 (.cons (.asg (.nm 4) (.bin .mod (.bin .fdiv (.var 0) (.int 8)) (.var 3)))
 (.cons (.ret (.bin .add (.bin .add (.bin .mul (.var 1) (.var 4)) (.ix (.str "bdghjk") (.var 2))) (.bin .mul (.var 1) (.bin .sub (.bin .sub (.var 3) (.int 1)) (.var 4)))))
 .nil))),false⟩
noncomputable def ja:Fd:=⟨"_law_leaf",["_law_cell_here","_law_family","_law_names_here"],["_law_terms","_law_j"],
 (.cons (.new 3 (.lst .nil))
 (.cons (.for_ (.nm 4) (.rng (.bin .mod (.bin .fdiv (.var 0) (.int 5)) (.int 4)))
 (.cons (.append 3 (.ix (.var 2) (.bin .mod (.bin .fdiv (.var 0) (.bin .add (.int 7) (.bin .mul (.int 4) (.var 4)))) (.blt .len (.cons (.var 2) .nil)))))
 .nil))
 (.cons (.ret (.tup (.cons (.str "word") (.cons (.call 21 (.cons (.var 1) (.cons (.str "q") (.cons (.bin .mod (.var 0) (.int 3)) .nil)))) (.cons (.blt .toTup (.cons (.pk 3) .nil)) .nil)))))
 .nil))),false⟩
noncomputable def fj:Fd:=⟨"_law_statement",["_law_cell_here","_law_deep","_law_around","_law_names_here","_law_family"],["_law_kind","_law_rest","_law_one"],
 (.cons (.asg (.nm 5) (.ix (.lst (.cons (.str "word") (.cons (.str "not") (.cons (.str "and") (.cons (.str "or") (.cons (.str "if") (.cons (.str "all") (.cons (.str "some") (.cons (.str "yes") (.cons (.str "no") (.cons (.str "word") .nil))))))))))) (.bin .mod (.var 0) (.int 10))))
 (.cons (.asg (.nm 6) (.bin .fdiv (.var 0) (.int 10)))
 (.cons (.ifs (.or (.cmp .eq (.var 5) (.str "yes")) (.cmp .eq (.var 5) (.str "no")))
 (.cons (.ret (.tup (.cons (.var 5) .nil)))
 .nil)
 .nil)
 (.cons (.ifs (.or (.cmp .eq (.var 5) (.str "word")) (.cmp .eq (.var 1) (.int 0)))
 (.cons (.ret (.call 22 (.cons (.var 6) (.cons (.var 4) (.cons (.bin .add (.var 3) (.comp 1 (.nm 8) (.rng (.var 2)) .no (.blt .toStr (.cons (.var 8) .nil)))) .nil)))))
 .nil)
 .nil)
 (.cons (.ifs (.cmp .eq (.var 5) (.str "not"))
 (.cons (.ret (.tup (.cons (.str "not") (.cons (.call 23 (.cons (.var 6) (.cons (.bin .sub (.var 1) (.int 1)) (.cons (.var 2) (.cons (.var 3) (.cons (.var 4) .nil)))))) .nil))))
 .nil)
 .nil)
 (.cons (.ifs (.or (.cmp .eq (.var 5) (.str "all")) (.cmp .eq (.var 5) (.str "some")))
 (.cons (.ret (.tup (.cons (.var 5) (.cons (.call 23 (.cons (.var 6) (.cons (.bin .sub (.var 1) (.int 1)) (.cons (.bin .add (.var 2) (.int 1)) (.cons (.var 3) (.cons (.var 4) .nil)))))) .nil))))
 .nil)
 .nil)
 (.cons (.asg (.nm 7) (.call 23 (.cons (.bin .mod (.bin .mul (.var 6) (.int 48271)) (.int 2147483647)) (.cons (.bin .sub (.var 1) (.int 1)) (.cons (.var 2) (.cons (.var 3) (.cons (.var 4) .nil)))))))
 (.cons (.ret (.tup (.cons (.var 5) (.cons (.var 7) (.cons (.call 23 (.cons (.bin .mod (.bin .mul (.var 6) (.int 69621)) (.int 2147483629)) (.cons (.bin .sub (.var 1) (.int 1)) (.cons (.var 2) (.cons (.var 3) (.cons (.var 4) .nil)))))) .nil)))))
 .nil)))))))),false⟩
noncomputable def cW:Fd:=⟨"_law_put",["_law_s","_law_name","_law_deep"],["_law_terms","_law_term"],
 (.cons (.ifs (.cmp .eq (.ix (.var 0) (.int 0)) (.str "word"))
 (.cons (.new 3 (.lst .nil))
 (.cons (.for_ (.nm 4) (.sq (.ix (.var 0) (.int 2)))
 (.cons (.ifs (.cmp .eq (.var 4) (.blt .toStr (.cons (.var 2) .nil)))
 (.cons (.append 3 (.var 1))
 .nil)
 (.cons (.append 3 (.var 4))
 .nil))
 .nil))
 (.cons (.ret (.tup (.cons (.str "word") (.cons (.ix (.var 0) (.int 1)) (.cons (.blt .toTup (.cons (.pk 3) .nil)) .nil)))))
 .nil)))
 .nil)
 (.cons (.ifs (.or (.cmp .eq (.ix (.var 0) (.int 0)) (.str "all")) (.cmp .eq (.ix (.var 0) (.int 0)) (.str "some")))
 (.cons (.ret (.tup (.cons (.ix (.var 0) (.int 0)) (.cons (.call 24 (.cons (.ix (.var 0) (.int 1)) (.cons (.var 1) (.cons (.bin .add (.var 2) (.int 1)) .nil)))) .nil))))
 .nil)
 .nil)
 (.cons (.ret (.bin .add (.tup (.cons (.ix (.var 0) (.int 0)) .nil)) (.blt .toTup (.cons (.comp 1 (.nm 5) (.sq (.sl (.var 0) (.yes (.int 1)) .no)) .no (.call 24 (.cons (.var 5) (.cons (.var 1) (.cons (.var 2) .nil))))) .nil))))
 .nil))),false⟩
noncomputable def dy:Fd:=⟨"_law_names",["_law_s"],["_law_found","_law_part"],
 (.cons (.ifs (.cmp .eq (.ix (.var 0) (.int 0)) (.str "word"))
 (.cons (.ret (.comp 1 (.nm 3) (.sq (.ix (.var 0) (.int 2))) (.yes (.cmp .notin (.var 3) (.str "0123456789"))) (.var 3)))
 .nil)
 .nil)
 (.cons (.asg (.nm 1) (.lst .nil))
 (.cons (.for_ (.nm 2) (.sq (.sl (.var 0) (.yes (.int 1)) .no))
 (.cons (.asg (.nm 1) (.bin .add (.var 1) (.call 25 (.cons (.var 2) .nil))))
 .nil))
 (.cons (.ret (.var 1))
 .nil)))),false⟩
noncomputable def fk:Fd:=⟨"_law_parts",["_law_side","_law_s","_law_name"],["_law_other_here","_law_one"],
 (.cons (.asg (.nm 3) (.ix (.lst (.cons (.str "left") (.cons (.str "right") .nil))) (.blt .toInt (.cons (.cmp .eq (.var 0) (.str "left")) .nil))))
 (.cons (.ifs (.cmp .eq (.ix (.var 1) (.int 0)) (.str "not"))
 (.cons (.ret (.lst (.cons (.lst (.cons (.tup (.cons (.var 3) (.cons (.ix (.var 1) (.int 1)) .nil))) .nil)) .nil)))
 .nil)
 .nil)
 (.cons (.ifs (.or (.cmp .eq (.ix (.var 1) (.int 0)) (.str "all")) (.cmp .eq (.ix (.var 1) (.int 0)) (.str "some")))
 (.cons (.ret (.lst (.cons (.lst (.cons (.tup (.cons (.var 0) (.cons (.call 24 (.cons (.ix (.var 1) (.int 1)) (.cons (.var 2) (.cons (.int 0) .nil)))) .nil))) .nil)) .nil)))
 .nil)
 .nil)
 (.cons (.ifs (.cmp .notin (.ix (.var 1) (.int 0)) (.tup (.cons (.str "and") (.cons (.str "or") (.cons (.str "if") .nil)))))
 (.cons (.ret (.lst .nil))
 .nil)
 .nil)
 (.cons (.asg (.nm 4) (.tup (.cons (.var 0) (.cons (.ix (.var 1) (.int 1)) .nil))))
 (.cons (.ifs (.cmp .eq (.ix (.var 1) (.int 0)) (.str "if"))
 (.cons (.asg (.nm 4) (.tup (.cons (.var 3) (.cons (.ix (.var 1) (.int 1)) .nil))))
 .nil)
 .nil)
 (.cons (.ifs (.cmp .eq (.cmp .eq (.ix (.var 1) (.int 0)) (.str "and")) (.cmp .eq (.var 0) (.str "left")))
 (.cons (.ret (.lst (.cons (.lst (.cons (.var 4) (.cons (.tup (.cons (.var 0) (.cons (.ix (.var 1) (.int 2)) .nil))) .nil))) .nil)))
 .nil)
 .nil)
 (.cons (.ret (.lst (.cons (.lst (.cons (.var 4) .nil)) (.cons (.lst (.cons (.tup (.cons (.var 0) (.cons (.ix (.var 1) (.int 2)) .nil))) .nil)) .nil))))
 .nil)))))))),false⟩
noncomputable def gF:Fd:=⟨"_law_closes",["_law_row"],["_law_side","_law_s"],
 (.cons (.ifs (.or (.cmp .isin (.tup (.cons (.str "left") (.cons (.tup (.cons (.str "no") .nil)) .nil))) (.var 0)) (.cmp .isin (.tup (.cons (.str "right") (.cons (.tup (.cons (.str "yes") .nil)) .nil))) (.var 0)))
 (.cons (.ret (.bl true))
 .nil)
 .nil)
 (.cons (.for_ (.tp [1,2]) (.sq (.var 0))
 (.cons (.ifs (.and (.cmp .eq (.var 1) (.str "left")) (.cmp .isin (.tup (.cons (.str "right") (.cons (.var 2) .nil))) (.var 0)))
 (.cons (.ret (.bl true))
 .nil)
 .nil)
 .nil))
 (.cons (.ret (.bl false))
 .nil))),false⟩
noncomputable def jV:Fd:=⟨"_law_own",["_law_row","_law_side","_law_s","_law_name"],["_law_one"],
 (.cons (.ifs (.or (.cmp .eq (.var 3) (.str "")) (.cmp .eq (.cmp .eq (.var 1) (.str "left")) (.cmp .eq (.ix (.var 2) (.int 0)) (.str "all"))))
 (.cons (.ret (.cmp .ne (.var 3) (.str "")))
 .nil)
 .nil)
 (.cons (.for_ (.nm 4) (.sq (.var 0))
 (.cons (.ifs (.cmp .isin (.var 3) (.call 25 (.cons (.ix (.var 4) (.int 1)) .nil)))
 (.cons (.ret (.bl false))
 .nil)
 .nil)
 .nil))
 (.cons (.ret (.bl true))
 .nil))),false⟩
noncomputable def dX:Fd:=⟨"_law_fits",["_law_row","_law_tree"],["_law_side","_law_s","_law_name","_law_branches","_law_branch","_law_kid"],
 (.cons (.ifs (.cmp .eq (.ix (.var 1) (.int 0)) (.str "close"))
 (.cons (.ret (.call 27 (.cons (.var 0) .nil)))
 .nil)
 .nil)
 (.cons (.ifs (.cmp .eq (.ix (.var 1) (.int 0)) (.str "cut"))
 (.cons (.ifs (.not (.call 29 (.cons (.bin .add (.var 0) (.lst (.cons (.tup (.cons (.str "right") (.cons (.ix (.var 1) (.int 1)) .nil))) .nil))) (.cons (.ix (.ix (.var 1) (.int 2)) (.int 0)) .nil))))
 (.cons (.ret (.bl false))
 .nil)
 .nil)
 (.cons (.ret (.call 29 (.cons (.bin .add (.var 0) (.lst (.cons (.tup (.cons (.str "left") (.cons (.ix (.var 1) (.int 1)) .nil))) .nil))) (.cons (.ix (.ix (.var 1) (.int 2)) (.int 1)) .nil))))
 .nil))
 .nil)
 (.cons (.asg (.tp [2,3,4]) (.sl (.var 1) (.yes (.int 1)) (.yes (.int 4))))
 (.cons (.asg (.nm 5) (.call 26 (.cons (.var 2) (.cons (.var 3) (.cons (.var 4) .nil)))))
 (.cons (.ifs (.or (.cmp .notin (.tup (.cons (.var 2) (.cons (.var 3) .nil))) (.var 0)) (.or (.cmp .eq (.var 5) (.lst .nil)) (.cmp .ne (.blt .len (.cons (.var 5) .nil)) (.blt .len (.cons (.ix (.var 1) (.int 4)) .nil)))))
 (.cons (.ret (.bl false))
 .nil)
 .nil)
 (.cons (.ifs (.and (.cmp .ne (.ix (.var 3) (.int 0)) (.str "all")) (.cmp .ne (.ix (.var 3) (.int 0)) (.str "some")))
 (.cons (.ifs (.cmp .ne (.var 4) (.str ""))
 (.cons (.ret (.bl false))
 .nil)
 .nil)
 .nil)
 (.cons (.ifs (.not (.call 28 (.cons (.var 0) (.cons (.var 2) (.cons (.var 3) (.cons (.var 4) .nil))))))
 (.cons (.ret (.bl false))
 .nil)
 .nil)
 .nil))
 (.cons (.forZ (.tp [6,7]) (.cons (.var 5) (.cons (.ix (.var 1) (.int 4)) .nil))
 (.cons (.ifs (.not (.call 29 (.cons (.bin .add (.var 0) (.var 6)) (.cons (.var 7) .nil))))
 (.cons (.ret (.bl false))
 .nil)
 .nil)
 .nil))
 (.cons (.ret (.bl true))
 .nil)))))))),false⟩
noncomputable def cq:Fd:=⟨"_law_bound",["_law_s","_law_name","_law_deep"],["_law_terms","_law_term"],
 (.cons (.ifs (.cmp .eq (.ix (.var 0) (.int 0)) (.str "word"))
 (.cons (.new 3 (.lst .nil))
 (.cons (.for_ (.nm 4) (.sq (.ix (.var 0) (.int 2)))
 (.cons (.ifs (.cmp .eq (.var 4) (.var 1))
 (.cons (.append 3 (.blt .toStr (.cons (.var 2) .nil)))
 .nil)
 (.cons (.append 3 (.var 4))
 .nil))
 .nil))
 (.cons (.ret (.tup (.cons (.str "word") (.cons (.ix (.var 0) (.int 1)) (.cons (.blt .toTup (.cons (.pk 3) .nil)) .nil)))))
 .nil)))
 .nil)
 (.cons (.ifs (.or (.cmp .eq (.ix (.var 0) (.int 0)) (.str "all")) (.cmp .eq (.ix (.var 0) (.int 0)) (.str "some")))
 (.cons (.ret (.tup (.cons (.ix (.var 0) (.int 0)) (.cons (.call 30 (.cons (.ix (.var 0) (.int 1)) (.cons (.var 1) (.cons (.bin .add (.var 2) (.int 1)) .nil)))) .nil))))
 .nil)
 .nil)
 (.cons (.ret (.bin .add (.tup (.cons (.ix (.var 0) (.int 0)) .nil)) (.blt .toTup (.cons (.comp 1 (.nm 5) (.sq (.sl (.var 0) (.yes (.int 1)) .no)) .no (.call 30 (.cons (.var 5) (.cons (.var 1) (.cons (.var 2) .nil))))) .nil))))
 .nil))),false⟩
noncomputable def mJ:Fd:=⟨"_law_twice",["_law_side","_law_s","_law_tree"],["_law_other_here"],
 (.cons (.asg (.nm 3) (.ix (.lst (.cons (.str "left") (.cons (.str "right") .nil))) (.blt .toInt (.cons (.cmp .eq (.var 0) (.str "left")) .nil))))
 (.cons (.ret (.tup (.cons (.str "rule") (.cons (.var 0) (.cons (.var 1) (.cons (.str "") (.cons (.tup (.cons (.tup (.cons (.str "rule") (.cons (.var 3) (.cons (.ix (.var 1) (.int 1)) (.cons (.str "") (.cons (.tup (.cons (.var 2) .nil)) .nil)))))) .nil)) .nil)))))))
 .nil)),false⟩
noncomputable def dQ:Fd:=⟨"_law_leaf_pair",["_law_cell_here","_law_names_here","_law_mode_here"],["_law_word","_law_forms","_law_f","_law_ways","_law_one","_law_row","_law_other_here","_law_tree"],
 (.cons (.asg (.nm 3) (.call 22 (.cons (.var 0) (.cons (.ix (.var 2) (.int 0)) (.cons (.var 1) .nil)))))
 (.cons (.new 4 (.lst .nil))
 (.cons (.for_ (.nm 5) (.rng (.int 3))
 (.cons (.ifs (.cmp .eq (.bin .mod (.bin .fdiv (.var 0) (.ix (.lst (.cons (.int 31) (.cons (.int 37) (.cons (.int 41) .nil)))) (.var 5))) (.int 4)) (.int 1))
 (.cons (.append 4 (.tup (.cons (.str "not") (.cons (.tup (.cons (.str "not") (.cons (.var 3) .nil))) .nil))))
 .nil)
 (.cons (.append 4 (.var 3))
 .nil))
 .nil))
 (.cons (.new 6 (.lst .nil))
 (.cons (.for_ (.nm 7) (.sq (.var 4))
 (.cons (.new 8 (.lst .nil))
 (.cons (.for_ (.nm 9) (.sq (.var 4))
 (.cons (.asg (.nm 10) (.tup (.cons (.str "close") .nil)))
 (.cons (.ifs (.cmp .ne (.var 7) (.var 3))
 (.cons (.asg (.nm 10) (.call 31 (.cons (.str "left") (.cons (.var 7) (.cons (.var 10) .nil)))))
 .nil)
 .nil)
 (.cons (.ifs (.cmp .ne (.var 9) (.var 3))
 (.cons (.asg (.nm 10) (.call 31 (.cons (.str "right") (.cons (.var 9) (.cons (.var 10) .nil)))))
 .nil)
 .nil)
 (.cons (.append 8 (.var 10))
 .nil)))))
 (.cons (.append 6 (.var 8))
 .nil))))
 (.cons (.ret (.tup (.cons (.var 4) (.cons (.var 6) .nil))))
 .nil)))))),false⟩
noncomputable def gE:Fd:=⟨"_law_single",["_law_kind","_law_own_here","_law_one","_law_order"],["_law_forms","_law_s","_law_ways","_law_f","_law_row","_law_g","_law_low","_law_high","_law_kid"],
 (.cons (.new 4 (.lst .nil))
 (.cons (.for_ (.nm 5) (.sq (.ix (.var 2) (.int 0)))
 (.cons (.ifs (.cmp .eq (.var 0) (.str "not"))
 (.cons (.append 4 (.tup (.cons (.str "not") (.cons (.var 5) .nil))))
 .nil)
 (.cons (.append 4 (.tup (.cons (.var 0) (.cons (.call 30 (.cons (.var 5) (.cons (.var 1) (.cons (.int 0) .nil)))) .nil))))
 .nil))
 .nil))
 (.cons (.new 6 (.lst .nil))
 (.cons (.for_ (.nm 7) (.rng (.int 3))
 (.cons (.new 8 (.lst .nil))
 (.cons (.for_ (.nm 9) (.rng (.int 3))
 (.cons (.ifs (.cmp .eq (.var 0) (.str "not"))
 (.cons (.asg (.nm 10) (.tup (.cons (.str "right") (.cons (.ix (.pk 4) (.var 9)) (.cons (.str "") .nil)))))
 (.cons (.asg (.nm 11) (.tup (.cons (.str "left") (.cons (.ix (.pk 4) (.var 7)) (.cons (.str "") .nil)))))
 (.cons (.asg (.nm 12) (.ix (.ix (.ix (.var 2) (.int 1)) (.var 9)) (.var 7)))
 .nil)))
 (.cons (.asg (.nm 10) (.tup (.cons (.str "right") (.cons (.ix (.pk 4) (.var 9)) (.cons (.var 1) .nil)))))
 (.cons (.asg (.nm 11) (.tup (.cons (.str "left") (.cons (.ix (.pk 4) (.var 7)) (.cons (.var 1) .nil)))))
 (.cons (.asg (.nm 12) (.ix (.ix (.ix (.var 2) (.int 1)) (.var 7)) (.var 9)))
 .nil))))
 (.cons (.ifs (.or (.cmp .eq (.var 0) (.str "some")) (.and (.cmp .eq (.var 0) (.str "not")) (.cmp .eq (.var 3) (.int 1))))
 (.cons (.asg (.tp [10,11]) (.tup (.cons (.var 11) (.cons (.var 10) .nil))))
 .nil)
 .nil)
 (.cons (.append 8 (.bin .add (.bin .add (.tup (.cons (.str "rule") .nil)) (.var 10)) (.tup (.cons (.tup (.cons (.bin .add (.bin .add (.tup (.cons (.str "rule") .nil)) (.var 11)) (.tup (.cons (.tup (.cons (.var 12) .nil)) .nil))) .nil)) .nil))))
 .nil))))
 (.cons (.append 6 (.var 8))
 .nil))))
 (.cons (.ret (.tup (.cons (.var 4) (.cons (.var 6) .nil))))
 .nil))))),false⟩
noncomputable def qm:Fd:=⟨"_law_way",["_law_kind","_law_pair_here","_law_other_here","_law_f","_law_g","_law_turns","_law_forms","_law_order"],["_law_one","_law_two","_law_tree","_law_low","_law_high","_law_turned","_law_kids"],
 (.cons (.asg (.nm 8) (.ix (.ix (.ix (.var 1) (.int 1)) (.var 3)) (.var 4)))
 (.cons (.asg (.nm 9) (.ix (.ix (.ix (.var 2) (.int 1)) (.var 3)) (.var 4)))
 (.cons (.ifs (.cmp .eq (.var 0) (.str "if"))
 (.cons (.asg (.nm 8) (.ix (.ix (.ix (.var 1) (.int 1)) (.var 4)) (.var 3)))
 (.cons (.ifs (.ix (.var 5) (.var 3))
 (.cons (.asg (.nm 8) (.tup (.cons (.str "rule") (.cons (.str "left") (.cons (.tup (.cons (.str "not") (.cons (.ix (.ix (.var 1) (.int 0)) (.var 3)) .nil))) (.cons (.str "") (.cons (.tup (.cons (.var 8) .nil)) .nil)))))))
 .nil)
 .nil)
 (.cons (.asg (.nm 10) (.tup (.cons (.str "rule") (.cons (.str "left") (.cons (.ix (.var 6) (.var 3)) (.cons (.str "") (.cons (.tup (.cons (.var 8) (.cons (.var 9) .nil))) .nil)))))))
 (.cons (.ifs (.ix (.var 5) (.var 4))
 (.cons (.asg (.nm 10) (.tup (.cons (.str "rule") (.cons (.str "right") (.cons (.tup (.cons (.str "not") (.cons (.ix (.ix (.var 1) (.int 0)) (.var 4)) .nil))) (.cons (.str "") (.cons (.tup (.cons (.var 10) .nil)) .nil)))))))
 .nil)
 .nil)
 (.cons (.ret (.tup (.cons (.str "rule") (.cons (.str "right") (.cons (.ix (.var 6) (.var 4)) (.cons (.str "") (.cons (.tup (.cons (.var 10) .nil)) .nil)))))))
 .nil)))))
 .nil)
 (.cons (.asg (.nm 11) (.tup (.cons (.str "left") (.cons (.ix (.var 6) (.var 3)) .nil))))
 (.cons (.asg (.nm 12) (.tup (.cons (.str "right") (.cons (.ix (.var 6) (.var 4)) .nil))))
 (.cons (.asg (.nm 13) (.ix (.var 5) (.var 4)))
 (.cons (.ifs (.cmp .eq (.var 0) (.str "or"))
 (.cons (.asg (.tp [11,12]) (.tup (.cons (.var 12) (.cons (.var 11) .nil))))
 (.cons (.asg (.nm 13) (.ix (.var 5) (.var 3)))
 .nil))
 .nil)
 (.cons (.asg (.nm 14) (.lst (.cons (.var 8) (.cons (.var 9) .nil))))
 (.cons (.ifs (.var 13)
 (.cons (.asg (.nm 14) (.lst (.cons (.var 9) (.cons (.var 8) .nil))))
 .nil)
 .nil)
 (.cons (.ifs (.cmp .eq (.var 7) (.int 1))
 (.cons (.cmp false 14 (.comp 1 (.nm 15) (.sq (.var 14)) .no (.tup (.cons (.str "rule") (.cons (.ix (.var 11) (.int 0)) (.cons (.ix (.var 11) (.int 1)) (.cons (.str "") (.cons (.tup (.cons (.var 15) .nil)) .nil))))))))
 (.cons (.ret (.tup (.cons (.str "rule") (.cons (.ix (.var 12) (.int 0)) (.cons (.ix (.var 12) (.int 1)) (.cons (.str "") (.cons (.blt .toTup (.cons (.var 14) .nil)) .nil)))))))
 .nil))
 .nil)
 (.cons (.ret (.tup (.cons (.str "rule") (.cons (.ix (.var 11) (.int 0)) (.cons (.ix (.var 11) (.int 1)) (.cons (.str "") (.cons (.tup (.cons (.tup (.cons (.str "rule") (.cons (.ix (.var 12) (.int 0)) (.cons (.ix (.var 12) (.int 1)) (.cons (.str "") (.cons (.blt .toTup (.cons (.var 14) .nil)) .nil)))))) .nil)) .nil)))))))
 .nil))))))))))),false⟩
noncomputable def dC:Fd:=⟨"_law_double",["_law_kind","_law_cell_here","_law_one","_law_two","_law_order"],["_law_forms","_law_turns","_law_f","_law_x","_law_y","_law_ways"],
 (.cons (.new 5 (.lst .nil))
 (.cons (.new 6 (.lst .nil))
 (.cons (.for_ (.nm 7) (.rng (.int 3))
 (.cons (.asg (.nm 8) (.ix (.ix (.var 2) (.int 0)) (.var 7)))
 (.cons (.asg (.nm 9) (.ix (.ix (.var 3) (.int 0)) (.var 7)))
 (.cons (.append 6 (.cmp .eq (.bin .mod (.bin .fdiv (.var 1) (.ix (.lst (.cons (.int 1) (.cons (.int 2) (.cons (.int 4) .nil)))) (.var 7))) (.int 2)) (.int 1)))
 (.cons (.ifs (.and (.cmp .eq (.var 0) (.str "if")) (.ix (.pk 6) (.var 7)))
 (.cons (.append 5 (.tup (.cons (.str "or") (.cons (.tup (.cons (.str "not") (.cons (.var 8) .nil))) (.cons (.var 9) .nil)))))
 .nil)
 (.cons (.ifs (.ix (.pk 6) (.var 7))
 (.cons (.append 5 (.tup (.cons (.var 0) (.cons (.var 9) (.cons (.var 8) .nil)))))
 .nil)
 (.cons (.append 5 (.tup (.cons (.var 0) (.cons (.var 8) (.cons (.var 9) .nil)))))
 .nil))
 .nil))
 .nil)))))
 (.cons (.new 10 (.lst .nil))
 (.cons (.for_ (.nm 7) (.rng (.int 3))
 (.cons (.append 10 (.comp 1 (.nm 11) (.rng (.int 3)) .no (.call 34 (.cons (.var 0) (.cons (.var 2) (.cons (.var 3) (.cons (.var 7) (.cons (.var 11) (.cons (.var 6) (.cons (.var 5) (.cons (.var 4) .nil)))))))))))
 .nil))
 (.cons (.ret (.tup (.cons (.var 5) (.cons (.var 10) .nil))))
 .nil)))))),false⟩
noncomputable def iX:Fd:=⟨"_law_pair",["_law_script","_law_at","_law_deep","_law_names_here","_law_mode_here"],["_law_cell_here","_law_kind","_law_own_here","_law_inner","_law_one","_law_two"],
 (.cons (.asg (.nm 5) (.call 20 (.cons (.var 0) (.cons (.var 1) .nil))))
 (.cons (.asg (.nm 6) (.ix (.lst (.cons (.str "word") (.cons (.str "not") (.cons (.str "and") (.cons (.str "or") (.cons (.str "if") (.cons (.str "all") (.cons (.str "some") (.cons (.str "and") .nil))))))))) (.bin .mod (.var 5) (.int 8))))
 (.cons (.ifs (.or (.cmp .eq (.var 2) (.int 0)) (.cmp .eq (.var 6) (.str "word")))
 (.cons (.ret (.call 32 (.cons (.bin .fdiv (.var 5) (.int 8)) (.cons (.var 3) (.cons (.var 4) .nil)))))
 .nil)
 .nil)
 (.cons (.asg (.nm 7) (.bin .add (.ix (.var 4) (.int 1)) (.blt .toStr (.cons (.blt .len (.cons (.var 3) .nil)) .nil))))
 (.cons (.new 8 (.blt .toLst (.cons (.var 3) .nil)))
 (.cons (.ifs (.or (.cmp .eq (.var 6) (.str "all")) (.cmp .eq (.var 6) (.str "some")))
 (.cons (.append 8 (.var 7))
 .nil)
 .nil)
 (.cons (.asg (.nm 9) (.call 36 (.cons (.var 0) (.cons (.bin .add (.bin .mul (.int 2) (.var 1)) (.int 1)) (.cons (.bin .sub (.var 2) (.int 1)) (.cons (.var 8) (.cons (.var 4) .nil)))))))
 (.cons (.ifs (.or (.cmp .eq (.var 6) (.str "not")) (.or (.cmp .eq (.var 6) (.str "all")) (.cmp .eq (.var 6) (.str "some"))))
 (.cons (.ret (.call 33 (.cons (.var 6) (.cons (.var 7) (.cons (.var 9) (.cons (.ix (.var 4) (.int 2)) .nil))))))
 .nil)
 .nil)
 (.cons (.asg (.nm 10) (.call 36 (.cons (.var 0) (.cons (.bin .add (.bin .mul (.int 2) (.var 1)) (.int 2)) (.cons (.bin .sub (.var 2) (.int 1)) (.cons (.var 3) (.cons (.var 4) .nil)))))))
 (.cons (.ret (.call 35 (.cons (.var 6) (.cons (.bin .fdiv (.var 5) (.int 8)) (.cons (.var 9) (.cons (.var 10) (.cons (.ix (.var 4) (.int 2)) .nil)))))))
 .nil)))))))))),false⟩
noncomputable def iZ:Fd:=⟨"_law_mode",["_law_script"],["_law_cell_here","_law_names_here"],
 (.cons (.asg (.nm 1) (.call 20 (.cons (.var 0) (.cons (.int 0) .nil))))
 (.cons (.asg (.nm 2) (.lst (.cons (.call 21 (.cons (.bin .fdiv (.var 1) (.int 4)) (.cons (.str "z") (.cons (.int 0) .nil)))) (.cons (.call 21 (.cons (.bin .fdiv (.var 1) (.int 4)) (.cons (.str "z") (.cons (.int 1) .nil)))) .nil))))
 (.cons (.ifs (.cmp .eq (.bin .mod (.var 1) (.int 4)) (.int 0))
 (.cons (.asg (.nm 2) (.lst (.cons (.str "n0") (.cons (.str "n1") .nil))))
 .nil)
 .nil)
 (.cons (.ret (.tup (.cons (.var 2) (.cons (.tup (.cons (.bin .fdiv (.var 1) (.int 4)) (.cons (.ix (.lst (.cons (.str "c") (.cons (.str "n") .nil))) (.blt .toInt (.cons (.cmp .eq (.bin .mod (.var 1) (.int 4)) (.int 1)) .nil))) (.cons (.bin .mod (.bin .fdiv (.var 1) (.int 32)) (.int 2)) .nil)))) .nil))))
 .nil)))),false⟩
noncomputable def gJ:Fd:=⟨"_law_made",["_law_script"],["_law_names_here","_law_mode_here","_law_cell_here","_law_forms","_law_ways","_law_row","_law_some","_law_number","_law_tree"],
 (.cons (.asg (.tp [1,2]) (.call 37 (.cons (.var 0) .nil)))
 (.cons (.asg (.nm 3) (.bin .fdiv (.call 20 (.cons (.var 0) (.cons (.int 0) .nil))) (.int 64)))
 (.cons (.asg (.tp [4,5]) (.call 36 (.cons (.var 0) (.cons (.int 1) (.cons (.bin .add (.int 2) (.blt .toInt (.cons (.cmp .eq (.bin .mod (.bin .fdiv (.var 3) (.int 4)) (.int 4)) (.int 1)) .nil))) (.cons (.var 1) (.cons (.var 2) .nil)))))))
 (.cons (.new 6 (.lst (.cons (.tup (.cons (.str "left") (.cons (.ix (.var 4) (.int 0)) .nil))) (.cons (.tup (.cons (.str "right") (.cons (.ix (.var 4) (.int 2)) .nil))) .nil))))
 (.cons (.asg (.nm 7) (.bin .add (.var 1) (.lst (.cons (.bin .add (.ix (.var 2) (.int 1)) (.str "2")) (.cons (.bin .add (.ix (.var 2) (.int 1)) (.str "3")) (.cons (.str "n0") .nil))))))
 (.cons (.for_ (.nm 8) (.sq (.sl (.var 0) (.yes (.int 23)) (.yes (.int 35))))
 (.cons (.append 6 (.tup (.cons (.ix (.lst (.cons (.str "left") (.cons (.str "right") .nil))) (.bin .mod (.var 8) (.int 2))) (.cons (.call 23 (.cons (.bin .fdiv (.var 8) (.int 2)) (.cons (.int 1) (.cons (.int 0) (.cons (.var 7) (.cons (.ix (.var 2) (.int 0)) .nil)))))) .nil))))
 .nil))
 (.cons (.ifs (.cmp .eq (.bin .mod (.var 3) (.int 4)) (.int 0))
 (.cons (.ret (.tup (.cons (.var 6) (.cons (.ix (.ix (.var 5) (.int 0)) (.int 2)) (.cons (.var 7) .nil)))))
 .nil)
 .nil)
 (.cons (.asg (.nm 9) (.tup (.cons (.str "cut") (.cons (.ix (.var 4) (.int 1)) (.cons (.tup (.cons (.ix (.ix (.var 5) (.int 0)) (.int 1)) (.cons (.ix (.ix (.var 5) (.int 1)) (.int 2)) .nil))) .nil)))))
 (.cons (.ifs (.cmp .eq (.bin .mod (.var 3) (.int 4)) (.int 2))
 (.cons (.asg (.nm 9) (.tup (.cons (.str "cut") (.cons (.ix (.var 4) (.int 1)) (.cons (.tup (.cons (.ix (.ix (.var 5) (.int 0)) (.int 1)) (.cons (.tup (.cons (.str "cut") (.cons (.ix (.var 4) (.int 0)) (.cons (.tup (.cons (.ix (.ix (.var 5) (.int 1)) (.int 0)) (.cons (.ix (.ix (.var 5) (.int 0)) (.int 2)) .nil))) .nil)))) .nil))) .nil)))))
 .nil)
 .nil)
 (.cons (.ifs (.cmp .eq (.bin .mod (.var 3) (.int 4)) (.int 3))
 (.cons (.asg (.nm 9) (.tup (.cons (.str "cut") (.cons (.ix (.var 4) (.int 0)) (.cons (.tup (.cons (.tup (.cons (.str "cut") (.cons (.ix (.var 4) (.int 1)) (.cons (.tup (.cons (.ix (.ix (.var 5) (.int 0)) (.int 1)) (.cons (.ix (.ix (.var 5) (.int 1)) (.int 0)) .nil))) .nil)))) (.cons (.ix (.ix (.var 5) (.int 0)) (.int 2)) .nil))) .nil)))))
 .nil)
 .nil)
 (.cons (.ret (.tup (.cons (.var 6) (.cons (.var 9) (.cons (.var 7) .nil)))))
 .nil))))))))))),false⟩
noncomputable def cT:Fd:=⟨"_law_other_rule",["_law_tree","_law_way_here","_law_extra","_law_some"],["_law_side","_law_s","_law_name","_law_kids"],
 (.cons (.asg (.tp [4,5,6,7]) (.sl (.var 0) (.yes (.int 1)) .no))
 (.cons (.ifs (.cmp .eq (.var 1) (.int 0))
 (.cons (.asg (.nm 7) (.sl (.var 7) (.yes (.int 1)) .no))
 .nil)
 .nil)
 (.cons (.ifs (.cmp .eq (.var 1) (.int 1))
 (.cons (.asg (.nm 7) (.bin .add (.var 7) (.tup (.cons (.tup (.cons (.str "close") .nil)) .nil))))
 .nil)
 .nil)
 (.cons (.ifs (.cmp .eq (.var 1) (.int 2))
 (.cons (.asg (.nm 7) (.rvt (.var 7) (.yes (.neg (.int 1)))))
 .nil)
 .nil)
 (.cons (.ifs (.or (.cmp .eq (.var 1) (.int 3)) (.cmp .eq (.var 1) (.int 4)))
 (.cons (.asg (.nm 6) (.ix (.bin .add (.var 3) (.lst (.cons (.str "") .nil))) (.bin .mod (.var 2) (.bin .add (.blt .len (.cons (.var 3) .nil)) (.int 1)))))
 .nil)
 .nil)
 (.cons (.ifs (.cmp .eq (.var 1) (.int 5))
 (.cons (.asg (.nm 4) (.ix (.lst (.cons (.str "left") (.cons (.str "right") .nil))) (.blt .toInt (.cons (.cmp .eq (.var 4) (.str "left")) .nil))))
 .nil)
 .nil)
 (.cons (.ifs (.cmp .eq (.var 1) (.int 6))
 (.cons (.asg (.nm 5) (.ix (.lst (.cons (.tup (.cons (.str "not") (.cons (.var 5) .nil))) (.cons (.tup (.cons (.str "or") (.cons (.var 5) (.cons (.tup (.cons (.str "no") .nil)) .nil)))) (.cons (.tup (.cons (.str "yes") .nil)) .nil)))) (.bin .mod (.var 2) (.int 3))))
 .nil)
 .nil)
 (.cons (.ret (.tup (.cons (.str "rule") (.cons (.var 4) (.cons (.var 5) (.cons (.var 6) (.cons (.var 7) .nil)))))))
 .nil)))))))),false⟩
noncomputable def ie:Fd:=⟨"_law_other",["_law_tree","_law_way_here","_law_extra","_law_some"],["_law_s"],
 (.cons (.asg (.nm 4) (.call 23 (.cons (.bin .fdiv (.var 2) (.int 8)) (.cons (.int 1) (.cons (.int 0) (.cons (.var 3) (.cons (.var 2) .nil)))))))
 (.cons (.ifs (.cmp .eq (.var 1) (.int 7))
 (.cons (.ret (.tup (.cons (.str "cut") (.cons (.var 4) (.cons (.tup (.cons (.var 0) (.cons (.var 0) .nil))) .nil)))))
 .nil)
 .nil)
 (.cons (.ifs (.cmp .eq (.var 1) (.int 8))
 (.cons (.ret (.tup (.cons (.str "rule") (.cons (.str "left") (.cons (.tup (.cons (.str "not") (.cons (.var 4) .nil))) (.cons (.str "") (.cons (.tup (.cons (.var 0) .nil)) .nil)))))))
 .nil)
 .nil)
 (.cons (.ifs (.and (.cmp .eq (.ix (.var 0) (.int 0)) (.str "rule")) (.cmp .lt (.var 1) (.int 7)))
 (.cons (.ret (.call 39 (.cons (.var 0) (.cons (.var 1) (.cons (.var 2) (.cons (.var 3) .nil))))))
 .nil)
 .nil)
 (.cons (.ifs (.and (.cmp .eq (.ix (.var 0) (.int 0)) (.str "cut")) (.cmp .lt (.var 1) (.int 4)))
 (.cons (.ret (.tup (.cons (.str "cut") (.cons (.ix (.var 0) (.int 1)) (.cons (.rvt (.ix (.var 0) (.int 2)) (.yes (.neg (.int 1)))) .nil)))))
 .nil)
 .nil)
 (.cons (.ifs (.cmp .eq (.ix (.var 0) (.int 0)) (.str "cut"))
 (.cons (.ret (.tup (.cons (.str "cut") (.cons (.var 4) (.cons (.ix (.var 0) (.int 2)) .nil)))))
 .nil)
 .nil)
 (.cons (.ret (.tup (.cons (.str "close") .nil)))
 .nil))))))),false⟩
noncomputable def gC:Fd:=⟨"_law_spoilt",["_law_tree","_law_path","_law_way_here","_law_extra","_law_some"],["_law_at","_law_kid"],
 (.cons (.ifs (.or (.cmp .eq (.ix (.var 0) (.int 0)) (.str "close")) (.cmp .eq (.bin .mod (.var 1) (.int 5)) (.int 0)))
 (.cons (.ret (.call 40 (.cons (.var 0) (.cons (.var 2) (.cons (.var 3) (.cons (.var 4) .nil))))))
 .nil)
 .nil)
 (.cons (.asg (.nm 5) (.bin .mod (.bin .fdiv (.var 1) (.int 5)) (.blt .len (.cons (.ix (.var 0) (.neg (.int 1))) .nil))))
 (.cons (.asg (.nm 6) (.call 41 (.cons (.ix (.ix (.var 0) (.neg (.int 1))) (.var 5)) (.cons (.bin .fdiv (.var 1) (.int 10)) (.cons (.var 2) (.cons (.var 3) (.cons (.var 4) .nil)))))))
 (.cons (.ret (.bin .add (.sl (.var 0) .no (.yes (.neg (.int 1)))) (.tup (.cons (.bin .add (.bin .add (.sl (.ix (.var 0) (.neg (.int 1))) .no (.yes (.var 5))) (.tup (.cons (.var 6) .nil))) (.sl (.ix (.var 0) (.neg (.int 1))) (.yes (.bin .add (.var 5) (.int 1))) .no)) .nil))))
 .nil)))),false⟩
noncomputable def iV:Fd:=⟨"_law_told",["_law_row","_law_tree"],["_law_found"],
 (.cons (.asg (.nm 2) (.call 18 (.cons (.call 19 (.cons (.var 0) .nil)) (.cons (.var 1) .nil))))
 (.cons (.ret (.and (.blt .isBool (.cons (.var 2) .nil)) (.cmp .eq (.var 2) (.call 29 (.cons (.var 0) (.cons (.var 1) .nil))))))
 .nil)),false⟩
noncomputable def d_law:Fd:=⟨"law",["_law_script"],["_law_row","_law_tree","_law_some","_law_path","_law_extra","_law_other_here"],
 (.cons (.asg (.tp [1,2,3]) (.call 38 (.cons (.var 0) .nil)))
 (.cons (.asg (.nm 4) (.call 20 (.cons (.var 0) (.cons (.int 35) .nil))))
 (.cons (.asg (.nm 5) (.call 20 (.cons (.var 0) (.cons (.int 36) .nil))))
 (.cons (.asg (.nm 6) (.var 2))
 (.cons (.ifs (.cmp .gt (.bin .mod (.var 4) (.int 5)) (.int 0))
 (.cons (.asg (.nm 6) (.call 41 (.cons (.var 2) (.cons (.bin .fdiv (.var 4) (.int 5)) (.cons (.bin .mod (.var 5) (.int 10)) (.cons (.bin .fdiv (.var 5) (.int 10)) (.cons (.var 3) .nil)))))))
 .nil)
 .nil)
 (.cons (.ret (.and (.call 42 (.cons (.var 1) (.cons (.var 2) .nil))) (.and (.call 42 (.cons (.var 1) (.cons (.var 6) .nil))) (.call 42 (.cons (.sl (.var 1) .no (.yes (.int 2))) (.cons (.var 2) .nil))))))
 .nil)))))),false⟩
noncomputable def d_lam0:Fd:=⟨"put_in.<locals>.<lambda>",["term","depth","name"],[],
 (.cons (.ret (.ite (.and (.call 1 (.cons (.var 0) .nil)) (.cmp .eq (.blt .toInt (.cons (.var 0) .nil)) (.var 1))) (.var 2) (.var 0))) .nil),false⟩
noncomputable def Gd:List Fd:=[vw,jU,dP,jS,dn,jv,ib,tV,mI,jT,mH,ka,kW,vt,kX,gB,ic,iU,kE,iY,jb,iW,ja,fj,cW,dy,fk,gF,jV,dX,cq,mJ,dQ,gE,qm,dC,iX,iZ,gJ,cT,ie,gC,iV,d_law]
noncomputable def Gs:List Fd:=[vw,jU,dP,jS,dn,jv,ib,tV,mI,jT,mH,ka,kW,vt,kX,gB,ic,iU,kE,iY,jb,iW,ja,fj,cW,dy,fk,gF,jV,dX,cq,mJ,dQ,gE,qm,dC,iX,iZ,gJ,cT,ie,gC,iV,d_law,d_lam0]
noncomputable def L0:Lam:=⟨"put_in.<locals>.<lambda>",NH (rlm (top 8)),NG (rlm (top 8)),ND (rlm (top 8)),["term","depth"],["name"]⟩
noncomputable instance tbs:Tbs:=⟨[(49,"put_in.<locals>.<lambda>")],[(44,L0)],[]⟩
noncomputable def pls:List (String × Nat):=[("inside",3),("is_place",4),("words_within",5),("names_of",6),("with_terms",7),("put_in",8),("sorted_row",12),("more",13),("closes",14),("names_in",15),("other_side",16),("signed_within",17),("parts",18),("is_own",19),("kids_of",22),("added_above",23),("rows_above",24),("stands_at",25),("fits",26),("_law_once",28),("_law_cell",29),("_law_text",30),("_law_leaf",31),("_law_statement",32),("_law_put",33),("_law_names",34),("_law_parts",35),("_law_closes",36),("_law_own",37),("_law_fits",38),("_law_bound",39),("_law_twice",40),("_law_leaf_pair",41),("_law_single",42),("_law_way",43),("_law_double",44),("_law_pair",45),("_law_mode",46),("_law_made",47),("_law_other_rule",48),("_law_other",49),("_law_spoilt",50),("_law_told",51),("law",52)]
noncomputable def gls:List D:=[.tup [.str "yes",.str "no",.str "word"],.tup [.str "all",.str "some"],.tup [.tup [.str "right",.str "and"],.tup [.str "left",.str "or"],.tup [.str "left",.str "if"]],.tup [.tup [.str "right",.str "all"],.tup [.str "left",.str "some"]],.tup [.str "close"]]
noncomputable def gns:List Str:=["LEAVES","BINDERS","FORKS","OWN","CLOSE"]
inductive U | neg | all | ex
inductive B | and | or | imp
noncomputable def U.s:U->Str | .neg=>"not" | U.all=>"all" | .ex=>"some"
noncomputable def B.s:B->Str | .and=>"and" | .or=>"or" | .imp=>"if"
noncomputable def up:U->Int | .neg=>0 | _=>1
inductive F where
 | yes | no | word (w:Str) (ts:List Str) | un (u:U) (a:F) | bi (b:B) (x y:F)
noncomputable def hd:F->Str
 | .yes=>"yes" | .no=>"no" | .word _ _=>"word" | .un u _=>u.s | .bi b _ _=>b.s
noncomputable def enc:F->D
 | .yes=>.tup [.str "yes"]
 | .no=>.tup [.str "no"]
 | .word w ts=>.tup [.str "word",.str w,.tup (ts.map .str)]
 | .un u a=>.tup [.str u.s,enc a]
 | .bi b x y=>.tup [.str b.s,enc x,enc y]
noncomputable def tl:F->List D
 | .yes | .no=>[]
 | .word w ts=>[.str w,.tup (ts.map .str)]
 | .un _ a=>[enc a]
 | .bi _ x y=>[enc x,enc y]
theorem gO (A:F):enc A = .tup (.str (hd A)::tl A):=by cases A<;>rfl
noncomputable def kd:F->Nat
 | .yes=>0 | .no=>1 | .word _ _=>2 | .un _ _=>3 | .bi _ _ _=>4
noncomputable def kdS (s:Str):Nat:=if s = "yes" then 0 else if s = "no" then 1 else if s = "word" then 2 else if s = "not" then 3 else if s = "all" then 3 else if s = "some" then 3 else 4
theorem DO:∀ A:F,kdS (hd A) = kd A
 | .yes=>(by decide +kernel:kdS "yes" = 0)
 | .no=>(by decide +kernel:kdS "no" = 1)
 | .word _ _=>(by decide +kernel:kdS "word" = 2)
 | .un .neg _=>(by decide +kernel:kdS "not" = 3)
 | .un .all _=>(by decide +kernel:kdS "all" = 3)
 | .un .ex _=>(by decide +kernel:kdS "some" = 3)
 | .bi .and _ _=>(by decide +kernel:kdS "and" = 4)
 | .bi .or _ _=>(by decide +kernel:kdS "or" = 4)
 | .bi .imp _ _=>(by decide +kernel:kdS "if" = 4)
theorem nX {A B:F} (h:hd A = hd B):kd A = kd B:=by rw [<- DO A,<- DO B,h]
noncomputable def sz:F->Nat
 | .un _ a=>sz a+1
 | .bi _ x y=>sz x+sz y+1
 | _=>1
theorem jR (x:Str):dep (.str x) = 0:=by unfold dep;rfl
theorem mE:∀ ts:List Str,cN (ts.map D.str) = 0
 | []=>by unfold cN;rfl
 | t::ts=>by rw [aU];unfold cN;rw [mE ts,jR];rfl
noncomputable def hF:F->Nat
 | .un _ a=>hF a+1
 | .bi _ x y=>max (hF x) (hF y)+1
 | _=>1
theorem yE:∀ A:F,hF A<=sz A
 | .yes | .no | .word _ _=>aB _
 | .un _ a=>by have:=yE a;simp only [hF,sz];lia
 | .bi _ x y=>by have:=yE x;have:=yE y;simp only [hF,sz];lia
theorem mG:∀ A:F,dep (enc A)<=hF A+1
 | .yes | .no=>by unfold enc;simp [dep,cN,hF]
 | .word w ts=>by unfold enc;simp [dep,cN,mE,hF]
 | .un b a=>by have:=mG a;unfold enc;simp [dep,cN,hF];lia
 | .bi b x y=>by have:=mG x;have:=mG y;unfold enc;simp [dep,cN,hF];lia
theorem kS (A:F):dep (enc A)<=sz A+1:=by have:=mG A;have:=yE A;lia
theorem yK:∀ ts us:List Str,gM (ts.map D.str) (us.map D.str) = true->ts = us
 | [],[],_=>rfl
 | [],_::_,h=>by unfold gM at h;cases h
 | _::_,[],h=>by unfold gM at h;cases h
 | t::ts,u::us,h=>by
   rw [aU,aU] at h;unfold gM eqD at h;rw [aa] at h;rw [show t = u by simpa using h.1,yK ts us h.2]
theorem nZ {A B:F} (h:eqD (enc A) (enc B) = true):hd A = hd B/\gM (tl A) (tl B) = true:=by
 rw [gO,gO] at h;unfold eqD gM eqD at h;rw [aa] at h;exact ⟨by simpa using h.1,h.2⟩
theorem MN {a b:D} (h:gM [a] [b] = true):eqD a b = true:=by
 unfold gM at h;rw [aa] at h;exact h.1
theorem KC {a b x y:D} (h:gM [a,x] [b,y] = true):eqD a b = true/\eqD x y = true:=by
 unfold gM at h;rw [aa] at h;exact ⟨h.1,MN h.2⟩
theorem KQ:∀ b c:B,b.s = c.s->b = c
 | .and,.and,_ | .or,.or,_ | .imp,.imp,_=>rfl
 | .and,.or,h | .and,.imp,h | .or,.and,h | .or,.imp,h | .imp,.and,h | .imp,.or,h=>absurd h (by decide +kernel)
theorem IJ:∀ b c:U,b.s = c.s->b = c
 | .neg,.neg,_ | .all,.all,_ | .ex,.ex,_=>rfl
 | .neg,.all,h | .neg,.ex,h | .all,.neg,h | .all,.ex,h | .ex,.neg,h | .ex,.all,h=>absurd h (by decide +kernel)
theorem tP:∀ A B:F,eqD (enc A) (enc B) = true->A = B
 | .yes,B,h=>by
   have this:=nX (nZ h).1
   cases B with
   | yes=>rfl
   | _=>exact absurd this (by simp [kd])
 | .no,B,h=>by
   have this:=nX (nZ h).1
   cases B with
   | no=>rfl
   | _=>exact absurd this (by simp [kd])
 | .word w ts,B,h=>by
   have this:=nX (nZ h).1;have h2:=(nZ h).2
   cases B with
   | word v us =>
     obtain ⟨h3,h4⟩:=KC h2;unfold eqD at h3 h4
     rw [show w = v by simpa using h3,yK ts us h4]
   | _=>exact absurd this (by simp [kd])
 | .un b a,B,h=>by
   have this':=(nZ h).1;have this:=nX this';have h2:=(nZ h).2
   cases B with
   | un c d=>rw [IJ b c this',tP a d (MN h2)]
   | _=>exact absurd this (by simp [kd])
 | .bi b x y,B,h=>by
   have this':=(nZ h).1;have this:=nX this';have h2:=(nZ h).2
   cases B with
   | bi c u v =>
     obtain ⟨h3,h4⟩:=KC h2
     rw [KQ b c this',tP x u h3,tP y v h4]
   | _=>exact absurd this (by simp [kd])
noncomputable def sd (L:Bool):Str:=if L then "left" else "right"
abbrev It:=Bool × F
noncomputable def itD (p:It):D:=.tup [.str (sd p.1),enc p.2]
theorem Jf:∀ b c:Bool,sd b = sd c->b = c:=by decide +kernel
theorem HV {p q:It} (h:eqD (itD p) (itD q) = true):p = q:=by
 unfold itD eqD at h;obtain ⟨h1,h2⟩:=KC h;unfold eqD at h1;obtain ⟨a,A⟩:=p;obtain ⟨b,B⟩:=q;rw [show a = b from Jf a b (by simpa using h1),show A = B from tP A B h2]
noncomputable def low (ps:List It):Prop:=∀ p∈ps,sz p.2<=61
theorem lQ (p:It) (h:sz p.2<=61):dep (itD p)<=64:=by
 have:=kS p.2;unfold itD;simp only [dep,cN,jR]
 lia
theorem mF:∀ {ps:List It},low ps->cN (ps.map itD)<=64
 | [],_=>by show cN ([]:List D)<=64;unfold cN;lia
 | p::ps,h=>by
   rw [aU];unfold cN;have:=lQ p (h p ay);have:=mF (ps:=ps) fun q hq=>h q (au _ hq)
   lia
theorem eq_self (p:It) (h:sz p.2<=61):eqD (itD p) (itD p) = true:=kC _ (by have:=lQ p h;lia)
noncomputable def has (ps:List It) (q:It):Bool:=(ps.map itD).any fun y=>eqD y (itD q)
theorem jP {ps:List It} {q:It} (h:low ps):has ps q = true↔q∈ps:=by
 unfold has;rw [kf];constructor
 . rintro ⟨y,hy,e⟩;obtain ⟨p,hp,rfl⟩:=bx.mp hy;rw [<- HV e];exact hp
 . intro hq;exact ⟨_,List.mem_map_of_mem hq,eq_self q (h q hq)⟩
theorem vk {ps:List It} {q:It} (h:low ps) (hq:sz q.2<=61):dep (itD q)<=150/\cN (ps.map itD) < 99999:=⟨by have:=lQ q hq;lia,by have:=mF h;lia⟩
theorem ltn (ys:List D):(hW [] ys).isSome = true:=by cases ys<;>(unfold hW;rfl)
theorem NA (ys:List D):(hW ys []).isSome = true:=by cases ys<;>(unfold hW;rfl)
theorem ltc {x y:D} {xs ys:List D} (h:(ltD x y).isSome = true) (h2:(hW xs ys).isSome = true):(hW (x::xs) (y::ys)).isSome = true:=by
 unfold hW;split
 . exact h2
 . exact h
theorem lts {s t:Str} {xs ys:List D} (h:s = t->(hW xs ys).isSome = true):(hW (.str s::xs) (.str t::ys)).isSome = true:=by
 unfold hW;split
 . rename_i e;exact h (by unfold eqD at e;simpa using e)
 . unfold ltD;rfl
theorem yv:∀ xs ys:List Str,(hW (xs.map D.str) (ys.map D.str)).isSome = true
 | [],ys=>ltn _
 | xs,[]=>NA _
 | x::xs,y::ys=>lts fun _=>yv xs ys
theorem lK {xs ys:List D} (h:(hW xs ys).isSome = true):(ltD (.tup xs) (.tup ys)).isSome = true:=by unfold ltD;exact h
theorem sZ:∀ A B:F,(ltD (enc A) (enc B)).isSome = true
 | .yes,B=>by rw [gO B];exact lK (lts fun _=>ltn _)
 | .no,B=>by rw [gO B];exact lK (lts fun _=>ltn _)
 | .word w ts,B=>by
   rw [gO B];refine lK (lts fun e=>?_);have e:hd (.word w ts) = hd B:=e
   cases B with
   | word v us=>exact lts fun _=>ltc (lK (yv ts us)) (ltn _)
   | _=>exact absurd (nX e) (by simp [kd])
 | .un b a,B=>by
   rw [gO B];refine lK (lts fun e=>?_);have e:hd (.un b a) = hd B:=e
   cases B with
   | un c d=>exact ltc (sZ a d) (ltn _)
   | _=>exact absurd (nX e) (by simp [kd])
 | .bi b x y,B=>by
   rw [gO B];refine lK (lts fun e=>?_);have e:hd (.bi b x y) = hd B:=e
   cases B with
   | bi c u v=>exact ltc (sZ x u) (ltc (sZ y v) (ltn _))
   | _=>exact absurd (nX e) (by simp [kd])
theorem mj {row:List It} (h:low row) (hl:row.length < 64):sortable (row.map itD) = true:=by
 unfold PP.sortable;simp only [aa,decide_eq_true_eq,dY];refine ⟨⟨by rw [ao];exact hl,fun x hx=>?_⟩,fun x hx y hy=>?_⟩
 . have k:∀ d∈row.map itD,bE d = 3:=fun d hd=>by
    obtain ⟨p,_,rfl⟩:=bx.mp hd;rfl
   cases e:row.map itD with
   | nil=>rw [e] at hx;cases hx
   | cons z zs =>
     have e2:bE ((z::zs).getD 0 .non) = 3:=k z (by rw [e];exact ay);rw [k x hx,e2];exact ⟨rfl,rfl⟩
 . obtain ⟨p,hp,rfl⟩:=bx.mp hx;obtain ⟨q,hq,rfl⟩:=bx.mp hy;have:=lQ p (h p hp);have:=lQ q (h q hq);unfold oC;rw [if_pos (by lia)];exact lK (lts fun _=>ltc (sZ _ _) (ltn _))
instance:Inhabited F:=⟨.yes⟩
theorem nk {α:Type} [Inhabited α] (g:α->D) (xs:List α):∃ ys:List α,eO (xs.map g) = ys.map g/\ys.Perm xs:=by
 unfold eO;rw [ao];split
 . exact ⟨xs,rfl,.refl _⟩
 . have p:=gi (lt:=iG (xs.map g)) xs.length;refine ⟨(ans (iG (xs.map g)) (PySem.W.kas_sort xs.length)).toList.map fun i=>xs.getD i default,?_,?_⟩
   . rw [vT];refine ma fun i hi=>?_;have hi:i < xs.length:=lB.mp (p.mem_iff.mp hi);show (xs.map g).getD i .non = g (xs.getD i default);rw [jd,bG,jd,az hi];rfl
   . refine (p.map _).trans ?_;rw [qZ default (fun x=>x) xs,List.map_id']
noncomputable def srt (xs:List It):List It:=Classical.choose (nk itD xs)
theorem BY (xs:List It):eO (xs.map itD) = (srt xs).map itD:=(rT (nk itD xs)).1
theorem iA (xs:List It):(srt xs).Perm xs:=(rT (nk itD xs)).2
noncomputable def isL (acc:List It) (x:It):Bool:=match acc.getLast? with
 | some y=>eqD (itD y) (itD x)
 | none=>false
noncomputable def dd:List It->List It->List It
 | acc,[]=>acc
 | acc,x::xs=>dd (if isL acc x = true then acc else acc++[x]) xs
noncomputable def mo (l:List It):List It:=dd [] (srt l)
theorem Ha {acc:List It} {x:It} (h:isL acc x = true):x∈acc:=by
 unfold isL at h;split at h
 . rename_i y e;rw [<- HV h];exact List.mem_of_getLast? e
 . cases h
theorem En {p:It}:∀ (xs acc:List It),p∈dd acc xs↔p∈acc\/p∈xs
 | [],acc=>by simp [dd]
 | x::xs,acc=>by
   unfold dd;rw [En xs];split
   . rename_i h;have:=Ha h;constructor
     . rintro (z | z)
       . exact .inl z
       . exact .inr (au _ z)
     . rintro (z | z)
       . exact .inl z
       . rcases aC.mp z with z | z
         . rw [z];exact .inl this
         . exact .inr z
   . rw [aP,bu,aC,or_assoc]
theorem Ep:∀ (xs acc:List It),(dd acc xs).length<=acc.length+xs.length
 | [],acc=>by simp [dd]
 | x::xs,acc=>by
   unfold dd;have:=Ep xs (if isL acc x = true then acc else acc++[x])
   have h2:(if isL acc x = true then acc else acc++[x]).length<=acc.length+1:=by
    split
    . lia
    . rw [aj];simp
   rw [ak]
   lia
theorem DF {p:It} {l:List It}:p∈mo l↔p∈l:=by
 unfold mo;rw [En,(iA l).mem_iff];simp
theorem wW (l:List It):(mo l).length<=l.length:=by
 unfold mo;have:=Ep (srt l) [];rw [(iA l).length_eq] at this;simpa using this
theorem low.app {a b:List It} (h:low a) (h2:low b):low (a++b):=fun p hp=>(aP.mp hp).elim (h p) (h2 p)
theorem low.one {p:It} (h:sz p.2<=61):low [p]:=fun q hq=>by rw [bu.mp hq];exact h
theorem GW {l:List D} {y:D}:atI (l++[y]) (-1) = some y:=by
 unfold atI ixN;rw [if_neg (by decide),if_pos (by simp;lia)];show (l++[y])[(-1+((l++[y]).length:Int)).toNat]? = some y;have e:(-1+((l++[y]).length:Int)).toNat = l.length:=by rw [aj];simp;lia
 rw [e,br (aB _),xD];rfl
theorem Mz {p q:It} (hp:sz p.2<=61) (hq:sz q.2<=61) {Q:Bool->Prop} (k:Q (!eqD (itD p) (itD q))):jj .ne (itD p) (itD q) Q:=by
 refine ⟨_,?_,k⟩;show (if gH (itD p) (itD q) = true then some (!eqD (itD p) (itD q)) else none) = _;have:=lQ p hp;have:=lQ q hq;rw [if_pos (by unfold gH;rw [show kin (itD p) (itD q) = true from rfl,eU,aa,decide_eq_true_eq,decide_eq_true_eq];lia)]
theorem s64:(1000:Nat) < sizeLine:=by decide +kernel
theorem DT (l:List It) (y x:It):isL (l++[y]) x = eqD (itD y) (itD x):=by
 unfold isL;rw [List.getLast?_append,List.getLast?_singleton];rfl
theorem low.tail {x:It} {xs:List It} (h:low (x::xs)):low xs:=fun p hp=>h p (au _ hp)
theorem CJ (n:Nat) (l:List It) (h:low l) (hl:l.length < 64):PP.run Gs gls (n+1) 6 [.lst (l.map itD)] = some (.tup ((mo l).map itD)):=by
 apply aX;refine aL ib rfl rfl rfl ?_;simp only [ib,init,SI,Nat.reduceAdd,Nat.reduceSub];simp only [↓WS,↓WC,WI,↓reduceIte];refine ⟨by decide,mj h hl,?_⟩;rw [BY];refine gb (g:=itD) (fun rest δ=>∃ (acc:List It) (s:Sl),δ = [.val (.lst (l.map itD)),.own (acc.map itD),s]/\low acc/\low rest/\dd acc rest = mo l/\acc.length+rest.length < 64) ?_ ?_ _ _ ⟨[],_,rfl,(fun p hp=>by cases hp),(fun p hp=>h p ((iA l).mem_iff.mp hp)),rfl,by rw [ax,(iA l).length_eq];lia⟩
 . rintro x rest δ ⟨acc,s,rfl,ha,hr,e,hlen⟩;rw [ak] at hlen;have hx:=hr x ay;have ss:=s64;rw [dd] at e
   have app:isL acc x = false->∃ (acc':List It) (s:Sl),([.val (.lst (l.map itD)),.own (acc.map itD++[itD x]),.val (itD x)]:PP.Loc) = [.val (.lst (l.map itD)),.own (acc'.map itD),s]/\low acc'/\low rest/\dd acc' rest = mo l/\acc'.length+rest.length < 64:=fun z=>by
    rw [z,if_neg aq] at e;exact ⟨acc++[x],_,by rw [aY];rfl,ha.app (.one hx),hr.tail,e,by rw [aj];simp only [ak,ax];lia⟩
   rcases List.eq_nil_or_concat acc with rfl | ⟨l',y,rfl⟩
   . simp only [iL,↓WS,↓WC,WI,↓reduceIte];exact ⟨by decide,app rfl⟩
   . rw [List.concat_eq_append] at e hlen app ha ⊢;have hy:=ha y (by simp);rw [aY] at app ⊢;have hne:(!!(l'.map itD++[y].map itD).isEmpty) = false:=by cases l'<;>rfl
     simp only [hne,↓WS,↓WC,WI,↓reduceIte];refine ⟨itD y,GW,Mz hy hx ?_⟩;rw [DT] at app e
     cases eb:eqD (itD y) (itD x) with
     | true =>
       rw [eb,if_pos rfl] at e
       exact ⟨l'++[y],_,by rw [aY],ha,hr.tail,e,by lia⟩
     | false=>exact ⟨by simp only [aj,ao,ak,ax] at hlen ⊢;lia,app eb⟩
 . rintro δ ⟨acc,s,rfl,_,_,e,_⟩;simp only [↓WS,↓WC,WI,↓reduceIte];rw [<- e];rfl
theorem Jj (n:Nat) (r ad:List It) (a:D) (ha:a = .lst (ad.map itD)\/a = .tup (ad.map itD)) (h:low (r++ad)) (hl:r.length+ad.length < 64):PP.run Gs gls (n+2) 7 [.tup (r.map itD),a] = some (.tup ((mo (r++ad)).map itD)):=by
 have w:=CJ n (r++ad) h (by rw [aj];exact hl);rw [aY] at w;have ss:=s64;apply aX;refine aL tV rfl rfl rfl ?_;simp only [tV,init,SI,Nat.reduceAdd,Nat.reduceSub];rcases ha with rfl | rfl
 . simp only [↓WS,↓WC,WI,↓reduceIte];exact ⟨by rw [ao,ao];lia,(aK w).mpr rfl⟩
 . simp only [↓WS,↓WC,WI,↓reduceIte];exact ⟨by rw [ao,ao];lia,(aK w).mpr rfl⟩
noncomputable def cl (ps:List It):Bool:=has ps (false,.yes) || (has ps (true,.no) || ps.any fun p=>p.1 && has ps (false,p.2))
noncomputable def clo (S:It->Prop):Prop:=S (false,.yes)\/S (true,.no)\/∃ A,S (true,A)/\S (false,A)
theorem Ew {ps:List It} (h:low ps):cl ps = true↔clo (·∈ps):=by
 unfold cl clo;rw [cw,cw,jP h,jP h,kf];refine or_congr cA (or_congr cA ⟨?_,?_⟩)
 . rintro ⟨⟨b,A⟩,hp,e⟩;rw [aa,jP h] at e;obtain ⟨e1,e2⟩:=e
   cases b with
   | true=>exact ⟨A,hp,e2⟩
   | false=>cases e1
 . rintro ⟨A,h1,h2⟩;exact ⟨(true,A),h1,by rw [aa,jP h];exact ⟨rfl,h2⟩⟩
theorem rK {α:Type} (f:α->Bool):∀ xs:List α,lS (xs.map fun x=>D.bl (f x)) = some (xs.map f)
 | []=>rfl
 | x::xs=>by
   rw [aU];unfold lS;rw [rK f xs];rfl
theorem any_map {α:Type} (f:α->Bool) (xs:List α) {Q:D->Prop} (q:Q (.bl (xs.any f))):ng .any [.lst (xs.map fun x=>D.bl (f x))] Q:=by
 refine ⟨.bl (xs.any f),?_,q⟩;show (lS (xs.map fun x=>D.bl (f x))).map (fun bs=>D.bl (bs.any id)) = _;rw [rK];show some (D.bl ((xs.map f).any id)) = _;rw [List.any_map];rfl
theorem Je (b:Bool):(sd b == "left") = b:=by cases b<;>decide +kernel
theorem CP (n:Nat) (ps:List It) (h:low ps) (hl:ps.length<=1000):PP.run Gs gls (n+1) 8 [.tup (ps.map itD)] = some (.bl (cl ps)):=by
 have ss:=s64;apply aX;refine aL mI rfl rfl rfl ?_;simp only [mI,init,SI,Nat.reduceAdd,Nat.reduceSub];simp only [ak,ax,↓uA,↓WS,↓WC,WI,↓reduceIte];have dl:=mF h;refine ⟨by decide,by decide,⟨by decide +kernel,by lia⟩,kg (fun h1=>?_) fun h1=>⟨by decide,by decide,⟨by decide +kernel,by lia⟩,kg (fun h2=>?_) fun h2=>?_⟩⟩
 . have e:has ps (false,.yes) = true:=h1;unfold cl;rw [e];rfl
 . have e:has ps (true,.no) = true:=h2;unfold cl;rw [e,iM,ox]
 . have e1:has ps (false,.yes) = false:=fg.mpr h1;have e2:has ps (true,.no) = false:=fg.mpr h2;refine ir itD (fun _=>true) (fun p=>.bl (p.1 && has ps (false,p.2))) ps (fun p hp=>?_) ⟨?_,?_⟩
   . obtain ⟨b,A⟩:=p;show wTg [Sl.val (D.tup (ps.map itD)),.no,.no] (Tg.tp [1,2]) (D.tup [D.str (sd b),enc A]) _;simp only [↓me,Je,SI,↓WS,↓WC,WI,↓reduceIte];refine ⟨trivial,?_⟩
     cases b with
     | false=>exact ⟨rfl,rfl⟩
     | true=>exact ⟨by decide,vk (q:=(false,A)) h (h (true,A) hp),rfl,rfl⟩
   . rw [ao,dU.mpr fun _ _=>rfl];lia
   . rw [dU.mpr fun _ _=>rfl];refine any_map _ _ ?_;unfold cl;rw [e1,e2];rfl
noncomputable def nm (t:Str):Prop:=∃ c r,t.cps.toList = c::r/\97<=c/\c<=122
noncomputable def okF:F->Prop
 | .word _ ts=>ts.length<=1000
 | .un _ a=>okF a
 | .bi _ x y=>okF x/\okF y
 | _=>True
noncomputable def tms:F->List Str
 | .word _ ts=>ts
 | .un _ a=>tms a
 | .bi _ x y=>tms x++tms y
 | _=>[]
noncomputable def eS (f:Str->Int->Str):F->Int->F
 | .word w ts,k=>.word w (ts.map fun t=>f t k)
 | .un u a,k=>.un u (eS f a (k+up u))
 | .bi b x y,k=>.bi b (eS f x k) (eS f y k)
 | A,_=>A
theorem my (f:Str->Int->Str):∀ (A:F) (k:Int),hF (eS f A k) = hF A
 | .yes,_ | .no,_ | .word _ _,_=>rfl
 | .un u a,k=>by simp only [eS,hF,my f a]
 | .bi b x y,k=>by simp only [eS,hF,my f x,my f y]
mutual
theorem yy:∀ ts:List Str,lfL (ts.map D.str) = true
 | []=>by unfold lfL;rfl
 | t::ts=>by rw [aU];unfold lfL lf;exact yy ts
end
theorem tq:∀ A:F,lf (enc A) = true
 | .yes | .no=>by unfold enc;decide +kernel
 | .word w ts=>by unfold enc;simp only [lf,lfL,yy,jF]
 | .un u a=>by unfold enc;simp only [lf,lfL,tq a,jF]
 | .bi b x y=>by unfold enc;simp only [lf,lfL,tq x,tq y,jF]
noncomputable def bds:List D:=[.str "all",.str "some"]
theorem LC {f:Nat->List D->Option D} {h:Nat->Bool} {δ:PP.Loc} {Q:D->PP.Loc->Prop}:wE ⟨f,gls,h⟩ (.glob 1) δ Q↔Q (.tup bds) δ:=by
 rw [xK];exact ⟨fun ⟨_,e,q⟩=>by cases e;exact q,fun q=>⟨_,rfl,q⟩⟩
theorem HU:(("word":Str) == "word") = true:=by decide +kernel
theorem mX {a:D} {ds:List D} {Q:D->Prop}:wSl (.tup (a::ds)) (some 1) none Q↔Q (.tup ds):=by
 have e1:HT.sIx (a::ds).length 0 (some 1) = 1:=by
  rw [show (1:Int) = ((1:Nat):Int) from rfl,HT.sIx_nat];simp
 have e2:HT.sIx (a::ds).length (a::ds).length none = (a::ds).length:=rfl;unfold wSl slD;dsimp only;rw [e1,e2,if_neg (by simp)];unfold cutD;rw [e1,e2];simp
noncomputable def Lm (kk:Nat) (cs:List D) (f:Str->Int->Str) (p:Str->Prop):Prop:=∀ (n:Nat) (t:Str) (k:Int),p t->0<=k->k < 1000->PP.run Gs gls (n+2) kk (.str t::.int k::cs) = some (.str (f t k))
noncomputable def upk (u:U) (k:Int):Int:=match u with | .neg=>k | _=>k+1
theorem IK (u:U) (k:Int):upk u k = k+up u:=by cases u<;>simp [upk,up]
theorem BQ (u:U) (k:Int):k<=upk u k/\upk u k<=k+1:=by cases u<;>simp [upk]<;>lia
theorem sJ {kk:Nat} {cs:List D} {f:Str->Int->Str} {p:Str->Prop} (hm:Lm kk cs f p):∀ (A:F) (n:Nat) (k:Int),hF A+2<=n->0<=k->k+hF A < 1000->okF A->(∀ t∈tms A,p t)->PP.run Gs gls n 4 [enc A,.int k,.fn kk cs] = some (enc (eS f A k))
 | .yes,n+3,k,h,h0,h1,o,hp=>by kernel_rfl
 | .no,n+3,k,h,h0,h1,o,hp=>by kernel_rfl
 | .word w ts,n+3,k,h,h0,h1,o,hp=>by
   have o':ts.length<=1000:=o;apply aX;unfold enc;refine mY dn rfl rfl rfl rfl ?_;simp only [dn,nY,uo,SI,Nat.reduceAdd,Nat.reduceSub];simp only [HU,ak,ax,↓WS,↓WC,WI,↓reduceIte];refine ir D.str (fun _=>true) (fun t=>.str (f t k)) ts ?_ ?_
   . intro t hF';simp only [SI,↓WS,↓WC,WI,↓reduceIte];refine ⟨trivial,by simp [lfL,lf],?_⟩;rw [aK (hm n t k (hp t hF') h0 (by simp only [hF] at h1;lia))];exact ⟨by simp [lf],rfl,rfl⟩
   . have e:(ts.filter fun _=>true) = ts:=dU.mpr fun _ _=>rfl;rw [e];refine ⟨by rw [ao];exact small o',?_⟩;refine ⟨by decide,?_⟩;show D.tup [_,_,D.tup (ts.map fun t=>D.str (f t k))] = D.tup [.str "word",.str w,.tup ((ts.map fun t=>f t k).map .str)];rw [vT]
     rfl
 | .un u a,n+3,k,h,h0,h1,o,hp=>by
   have ih:=sJ hm a (n+2) (upk u k) (by simp only [hF] at h;lia) (by have:=BQ u k;lia) (by have:=BQ u k;simp only [hF] at h1;lia) o hp;have wi:PP.run Gs gls (n+2) 0 [enc (.un u a)] = some (.tup [enc a]):=by cases u<;>kernel_rfl
   apply aX;refine mY dn rfl rfl rfl rfl ?_;simp only [dn,nY,uo,SI,Nat.reduceAdd,Nat.reduceSub];refine bB 3 [.val (enc (.un u a)),.val (.int k),.fnc kk cs,.val (.str u.s),.val (.int (upk u k))] (by cases u<;>kernel_rfl) ?_;simp only [cM,↓aK wi,↓fQ,↓eY,SI,lU,Nat.reduceAdd,↓aK ih,↓WS,↓WC,WI,↓reduceIte];refine ⟨by decide,rfl,by decide,by decide,?_⟩;rw [IK]
   rfl
 | .bi b x y,n+3,k,h,h0,h1,o,hp=>by
   have ih1:=sJ hm x (n+2) k (by simp only [hF] at h;lia) (by lia) (by simp only [hF] at h1;lia) o.1 fun t z=>hp t (cV _ z);have ih2:=sJ hm y (n+2) k (by simp only [hF] at h;lia) (by lia) (by simp only [hF] at h1;lia) o.2 fun t z=>hp t (aO _ z);have wi:PP.run Gs gls (n+2) 0 [enc (.bi b x y)] = some (.tup [enc x,enc y]):=by cases b<;>kernel_rfl
   apply aX;refine mY dn rfl rfl rfl rfl ?_;simp only [dn,nY,uo,SI,Nat.reduceAdd,Nat.reduceSub];refine bB 3 [.val (enc (.bi b x y)),.val (.int k),.fnc kk cs,.val (.str b.s),.val (.int k)] (by cases b<;>kernel_rfl) ?_;simp only [cM,↓aK wi,↓fQ,↓eY,SI,lU,Nat.reduceAdd,↓aK ih1,↓aK ih2,↓WS,↓WC,WI,↓reduceIte]
   exact ⟨by decide,rfl,rfl,by decide,by decide,rfl⟩
 | A,0,k,h,h0,h1,o,hp=>by lia
 | A,1,k,h,h0,h1,o,hp=>by lia
 | A,2,k,h,h0,h1,o,hp=>by cases A<;>simp only [hF] at h<;>lia
theorem kQ {i:Int} (h0:0<=i) (h1:i < 1000):i.natAbs.log2 < 1920:=by
 have:i.natAbs < 1000:=by lia
 rcases Nat.eq_zero_or_pos i.natAbs with e | e
 . rw [e];decide
 . have:=(AM (k:=10) (Nat.pos_iff_ne_zero.mp e)).mpr (by lia)
   lia
noncomputable def bf (nm t:Str) (k:Int):Str:=if (t == nm) = true then toString k else t
noncomputable def isN (t:Str):Bool:=!(decide (t.length > 0) && t.cps.all cX)
theorem tF {t:Str} (h:nm t):isN t = true:=by
 obtain ⟨c,r,e,h1,h2⟩:=h
 have hc:cX c = false:=by
  have:∀ c:Nat,c < 123->97<=c->cX c = false:=by decide +kernel
  exact this c (by lia) h1
 have:t.cps.all cX = false:=by
  rw [<- EW,e];simp [hc]
 unfold isN;rw [this];simp
noncomputable def pl (j:Int):Str:=toString j
theorem Ad (m:Nat):∀ c∈(pl (m:Int)).cps.toList,48<=c/\c<=57:=fun c hc=>by
 unfold pl at hc;rw [PySem.W.KIN.signs_num] at hc;obtain ⟨ch,hch,e⟩:=bx.mp hc;have r:=PyProof.Rows.digit_range (Nat.isDigit_of_mem_toDigits (by decide) (by decide) hch);rw [<- e];exact r
theorem sM {j:Int} (h0:0<=j) (h1:j < 1000):PySem.intText? (pl j) = some j:=PySem.W.KIN.num_reads h0 (by lia)
theorem Jv {j:Int} (h0:0<=j) (h1:j < 1000):(pl j).length<=640:=bc (PySem.W.KT.len_num h0 (by lia)) (by decide)
theorem pV {j:Int} (h0:0<=j):isN (pl j) = false:=by
 obtain ⟨m,rfl⟩:=vU h0
 have h1:(pl (m:Int)).cps.all cX = true:=by
  rw [<- EW,dY];intro c hc;have:∀ c:Nat,c < 58->48<=c->cX c = true:=by decide +kernel
  obtain ⟨a,b⟩:=Ad m c hc;exact this c (by lia) a
 have h2:(pl (m:Int)).length > 0:=by
  have:(pl (m:Int)).cps.toList≠[]:=by
   unfold pl;rw [PySem.W.KIN.signs_num];intro e;have h:=PySem.toDigits_len_ge 10 m;rw [List.map_eq_nil_iff.mp e] at h;exact absurd h (by decide)
  rw [<- str_len];exact List.length_pos_iff.mpr this
 unfold isN;rw [h1,decide_eq_true h2];rfl
theorem Mx {t:Str} (h:nm t) {j:Int} (h0:0<=j):(t == pl j) = false:=by
 cases e:(t == pl j) with
 | false=>rfl
 | true =>
   have e':t = pl j:=by simpa using e
   have:=tF h;rw [e',pV h0] at this;cases this
noncomputable def Pd (t:Str):Prop:=nm t\/∃ j:Int,0<=j/\j < 10/\t = pl j
noncomputable def pf (new t:Str) (k:Int):Str:=if isN t = false/\PySem.intText? t = some k then new else t
theorem HI (n:Nat) (t:Str):PP.run Gs gls (n+1) 1 [.str t] = some (.bl (!isN t)):=by
 apply aX;refine aL jU rfl rfl rfl ?_;simp only [jU,init,SI,Nat.reduceAdd,Nat.reduceSub];simp only [↓uy,↓WS,↓WC,WI,↓reduceIte];simp [isN]
theorem MD (new:Str):Lm 44 [.str new] (pf new) Pd:=by
 intro n t k hp h0 h1;apply aX;refine aL d_lam0 rfl rfl rfl ?_;simp only [d_lam0,init,SI,Nat.reduceAdd,Nat.reduceSub];simp only [↓aK (HI _ _),↓WS,↓WC,WI,↓reduceIte];unfold pf;rcases hp with h | ⟨j,j0,j1,rfl⟩
 . simp [tF h]
 . have e1:=pV j0;have e2:=sM j0 (show j < 1000 by lia);simp only [e1,Bool.not_false,↓zF,e2,↓WS,↓WC,WI,↓reduceIte];refine ⟨Jv j0 (by lia),j,rfl,?_⟩
   (try simp only [↓WS,↓WC,WI,↓reduceIte])
   split
   . rename_i h;rw [if_pos ⟨trivial,by rw [h]⟩]
   . rename_i h;rw [if_neg fun z=>h (bt z.2)]
theorem uS (A:F) (new:Str) (n:Nat) (h:hF A+2<=n) (h1:hF A < 1000) (o:okF A) (hp:∀ t∈tms A,Pd t):PP.run Gs gls (n+1) 5 [enc A,.str new] = some (enc (eS (pf new) A 0)):=by
 have r:=sJ (MD new) A n 0 h (by decide) (by lia) o hp;apply aX;refine aL jv rfl rfl rfl ?_;simp only [jv,init,SI,Nat.reduceAdd,Nat.reduceSub];simp only [flat,fH,cQ,↓aK r,tq,↓WS,↓WC,WI,↓reduceIte];exact ⟨trivial,rfl,trivial,trivial⟩
theorem tH {cx:Cl} {c:E} {a b:Ss} {δ:PP.Loc} {Q:Out->Prop} (h:wT cx c δ fun k δ1=>k = false/\δ1 = δ) (q:wSs cx b δ Q):wS cx (.ifs c a b) δ Q:=Bq (δ0:=δ) (fun k=>k = false) (let ⟨k,δ1,e,p⟩:=h;⟨k,δ1,e,p.2,p.1⟩) (fun z=>by cases z) fun _=>q
theorem dM {cx:Cl} {c:E} {a b:Ss} {δ:PP.Loc} {Q:Out->Prop} (h:wT cx c δ fun k δ1=>k = true/\δ1 = δ) (q:wSs cx a δ Q):wS cx (.ifs c a b) δ Q:=Bq (δ0:=δ) (fun k=>k = true) (let ⟨k,δ1,e,p⟩:=h;⟨k,δ1,e,p.2,p.1⟩) (fun _=>q) fun z=>by cases z
noncomputable def brs (L:Bool) (nm:Str):F->List (List It)
 | .un .neg a=>[[(!L,a)]]
 | .un _ a=>[[(L,eS (pf nm) a 0)]]
 | .bi .and x y=>if L = true then [[(L,x),(L,y)]] else [[(L,x)],[(L,y)]]
 | .bi .or x y=>if L = true then [[(L,x)],[(L,y)]] else [[(L,x),(L,y)]]
 | .bi .imp x y=>if L = true then [[(!L,x)],[(L,y)]] else [[(!L,x),(L,y)]]
 | _=>[]
noncomputable def brD (l:List (List It)):D:=.lst (l.map fun b=>.lst (b.map itD))
theorem Gb (n:Nat) (L:Bool) (nm:Str):∀ (A:F),hF A+6<=n->hF A < 1000->okF A->(∀ t∈tms A,Pd t)->PP.run Gs gls (n+1) 12 [.str (sd L),enc A,.str nm] = some (brD (brs L nm A))
 | .yes,h,_,_,_=>by obtain ⟨m,rfl⟩:∃ m,n = m+4:=⟨n - 4,by lia⟩;cases L<;>kernel_rfl
 | .no,h,_,_,_=>by obtain ⟨m,rfl⟩:∃ m,n = m+4:=⟨n - 4,by lia⟩;cases L<;>kernel_rfl
 | .word w ts,h,_,_,_=>by obtain ⟨m,rfl⟩:∃ m,n = m+4:=⟨n - 4,by lia⟩;cases L<;>kernel_rfl
 | .un .neg a,h,_,_,_=>by obtain ⟨m,rfl⟩:∃ m,n = m+4:=⟨n - 4,by lia⟩;cases L<;>kernel_rfl
 | .bi b x y,h,_,_,_=>by obtain ⟨m,rfl⟩:∃ m,n = m+4:=⟨n - 4,by lia⟩;cases L<;>cases b<;>kernel_rfl
 | .un .all a,h,h1,o,hp=>by
   simp only [hF] at h h1;obtain ⟨m,rfl⟩:∃ m,n = m+1:=⟨n - 1,by lia⟩;have r:=uS a nm m (by lia) (by lia) o hp;apply aX;refine aL kW rfl rfl rfl ?_;simp only [kW,init,SI,Nat.reduceAdd,Nat.reduceSub];refine bB 2 [.val (.str (sd L)),.val (enc (.un .all a)),.val (.str nm),.val (.str "all"),.no] (by kernel_rfl) (bD.mpr (dM ⟨true,_,by kernel_rfl,rfl,rfl⟩ ?_));simp only [enc,↓aK r,ak,ax,↓WS,↓WC,WI,↓reduceIte]
   exact ⟨by decide,by decide,by decide,rfl⟩
 | .un .ex a,h,h1,o,hp=>by
   simp only [hF] at h h1;obtain ⟨m,rfl⟩:∃ m,n = m+1:=⟨n - 1,by lia⟩;have r:=uS a nm m (by lia) (by lia) o hp;apply aX;refine aL kW rfl rfl rfl ?_;simp only [kW,init,SI,Nat.reduceAdd,Nat.reduceSub];refine bB 2 [.val (.str (sd L)),.val (enc (.un .ex a)),.val (.str nm),.val (.str "some"),.no] (by kernel_rfl) (bD.mpr (dM ⟨true,_,by kernel_rfl,rfl,rfl⟩ ?_));simp only [enc,↓aK r,ak,ax,↓WS,↓WC,WI,↓reduceIte];exact ⟨by decide,by decide,by decide,rfl⟩
noncomputable def qf (new t:Str) (k:Int):Str:=if (t == pl k) = true then new else t
theorem lJ:∀ (A:F) (n:Nat) (nm:Str) (k:Int),hF A<=n->0<=k->k+hF A < 1000->okF A->PP.run Gs gls n 24 [enc A,.str nm,.int k] = some (enc (eS (qf nm) A k))
 | .yes,n+1,nm,k,h,h0,h1,o=>by kernel_rfl
 | .no,n+1,nm,k,h,h0,h1,o=>by kernel_rfl
 | .word w ts,n+1,nm,k,h,h0,h1,o=>by
   have o':ts.length<=1000:=o;have ss:=s64;apply aX;refine aL cW rfl rfl rfl ?_;simp only [cW,init,SI,Nat.reduceAdd,Nat.reduceSub];refine bD.mpr (dM ⟨true,_,by kernel_rfl,rfl,rfl⟩ ?_);refine bB 1 [.val (enc (.word w ts)),.val (.str nm),.val (.int k),.own [],.no] (by kernel_rfl) ?_;simp only [cM,enc,ak,ax,↓WS,↓WC,WI,↓reduceIte];refine gb (g:=D.str) (fun rest δ=>∃ (acc:List Str) (s:Sl),δ = [.val (.tup [.str "word",.str w,.tup (ts.map .str)]),.val (.str nm),.val (.int k),.own (acc.map .str),s]/\acc++rest.map (fun t=>qf nm t k) = ts.map (fun t=>qf nm t k)/\acc.length+rest.length<=1000) ?_ ?_ _ _ ⟨[],_,rfl,rfl,by simpa using o'⟩
   . rintro x rest δ ⟨acc,s,rfl,e,hl⟩;rw [ak] at hl;simp only [↓WS,↓WC,WI,↓reduceIte];rw [aU] at e;have hl2:(acc.map D.str).length < sizeLine:=by rw [ao];lia
     refine ⟨kQ h0 (by simp only [hF] at h1;lia),kg (fun e1=>⟨hl2,acc++[nm],_,by rw [aY];rfl,?_,by rw [aj,aV];lia⟩) fun e1=>⟨hl2,acc++[x],_,by rw [aY];rfl,?_,by rw [aj,aV];lia⟩⟩
     . rw [<- e,show qf nm x k = nm from if_pos e1,dG];rfl
     . rw [<- e,show qf nm x k = x from if_neg e1,dG];rfl
   . rintro δ ⟨acc,s,rfl,e,_⟩;simp only [ak,ax,↓WS,↓WC,WI,↓reduceIte];refine ⟨by decide,?_⟩;rw [iL,bS] at e;rw [e]
     rfl
 | .un .neg a,n+1,nm,k,h,h0,h1,o=>by
   have ih:=lJ a n nm k (by simp only [hF] at h;lia) h0 (by simp only [hF] at h1;lia) o;apply aX;refine aL cW rfl rfl rfl ?_;simp only [cW,init,SI,Nat.reduceAdd,Nat.reduceSub];refine bB 2 [.val (enc (.un .neg a)),.val (.str nm),.val (.int k),.no,.no] (by kernel_rfl) ?_;simp only [cM,enc,↓mX,↓eY,↓fQ,SI,lU,Nat.reduceAdd,↓WS,↓WC,WI,↓reduceIte]
   exact ⟨by decide,(aK ih).mpr ⟨by decide,by decide,by rw [show eS (qf nm) (.un .neg a) k = .un .neg (eS (qf nm) a k) by simp [eS,up]];rfl⟩⟩
 | .un .all a,n+1,nm,k,h,h0,h1,o=>by
   have ih:=lJ a n nm (k+1) (by simp only [hF] at h;lia) (by lia) (by simp only [hF] at h1;lia) o;apply aX;refine aL cW rfl rfl rfl ?_;simp only [cW,init,SI,Nat.reduceAdd,Nat.reduceSub];refine bB 1 [.val (enc (.un .all a)),.val (.str nm),.val (.int k),.no,.no] (by kernel_rfl) (bD.mpr (dM ?_ ?_))
   . exact ⟨true,_,by kernel_rfl,rfl,rfl⟩
   simp only [enc,ak,ax,↓WS,↓WC,WI,↓reduceIte]
   exact (aK ih).mpr ⟨by decide,rfl⟩
 | .un .ex a,n+1,nm,k,h,h0,h1,o=>by
   have ih:=lJ a n nm (k+1) (by simp only [hF] at h;lia) (by lia) (by simp only [hF] at h1;lia) o;apply aX;refine aL cW rfl rfl rfl ?_;simp only [cW,init,SI,Nat.reduceAdd,Nat.reduceSub];refine bB 1 [.val (enc (.un .ex a)),.val (.str nm),.val (.int k),.no,.no] (by kernel_rfl) (bD.mpr (dM ?_ ?_))
   . exact ⟨true,_,by kernel_rfl,rfl,rfl⟩
   simp only [enc,ak,ax,↓WS,↓WC,WI,↓reduceIte]
   exact (aK ih).mpr ⟨by decide,rfl⟩
 | .bi b x y,n+1,nm,k,h,h0,h1,o=>by
   have ih1:=lJ x n nm k (by simp only [hF] at h;lia) h0 (by simp only [hF] at h1;lia) o.1;have ih2:=lJ y n nm k (by simp only [hF] at h;lia) h0 (by simp only [hF] at h1;lia) o.2;apply aX;refine aL cW rfl rfl rfl ?_;simp only [cW,init,SI,Nat.reduceAdd,Nat.reduceSub];refine bB 2 [.val (enc (.bi b x y)),.val (.str nm),.val (.int k),.no,.no] (by cases b<;>kernel_rfl) ?_;simp only [cM,enc,↓mX,↓eY,↓fQ,SI,lU,Nat.reduceAdd,↓WS,↓WC,WI,↓reduceIte]
   exact ⟨by decide,(aK ih1).mpr ((aK ih2).mpr ⟨by decide,by decide,rfl⟩)⟩
 | A,0,nm,k,h,h0,h1,o=>by cases A<;>simp only [hF] at h<;>lia
theorem LF (u:U):0<=up u/\up u<=1:=by cases u<;>decide
theorem jO {f g:Str->Int->Str}:∀ (A:F) (k:Int),(∀ t∈tms A,∀ j:Int,0<=j->j<=k+hF A->f t j = g t j)->0<=k->eS f A k = eS g A k
 | .yes,_,_,_ | .no,_,_,_=>rfl
 | .word w ts,k,h,h0=>by
   have h:∀ t∈ts,∀ j:Int,0<=j->j<=k+1->f t j = g t j:=h;simp only [eS]
   rw [ma fun t hF=>h t hF k h0 (by lia)]
 | .un u a,k,h,h0=>by
   have:=LF u
   simp only [eS,jO a (k+up u) (fun t hF' j j0 j1=>h t hF' j j0 (by simp only [hF];lia)) (by lia)]
 | .bi b x y,k,h,h0=>by
   simp only [eS,jO x k (fun t hF' j j0 j1=>h t (cV _ hF') j j0 (by simp only [hF];lia)) h0,jO y k (fun t hF' j j0 j1=>h t (aO _ hF') j j0 (by simp only [hF];lia)) h0]
theorem Mf {new t:Str} (h:Pd t) {k:Int} (k0:0<=k) (k1:k < 1000):qf new t k = pf new t k:=by
 unfold qf pf;rcases h with h | ⟨j,j0,j1,rfl⟩
 . have e1:(t == pl k) = false:=Mx h k0;have e2:isN t = true:=tF h;simp [e1,e2]
 . have e1:=pV j0;have e2:=sM j0 (show j < 1000 by lia);by_cases e:j = k
   . subst e;simp [e1,e2]
   . have e3:(pl j == pl k) = false:=by
      cases z:(pl j == pl k) with
      | false=>rfl
      | true =>
        have z:pl j = pl k:=eq_of_beq z;have:=sM k0 k1;rw [<- z,e2] at this;exact absurd (bt this) e
     simp [e1,e2,e3,e]
theorem uT {A:F} {new:Str} (h:∀ t∈tms A,Pd t) (hd:hF A < 900):eS (qf new) A 0 = eS (pf new) A 0 :=
 jO A 0 (fun t hF j j0 j1=>Mf (h t hF) j0 (by lia)) (by decide)
theorem CL (n:Nat) (L:Bool) (nm:Str):∀ (A:F),hF A+6<=n->hF A < 900->okF A->(∀ t∈tms A,Pd t)->PP.run Gs gls (n+1) 26 [.str (sd L),enc A,.str nm] = some (brD (brs L nm A))
 | .yes,h,_,_,_=>by obtain ⟨m,rfl⟩:∃ m,n = m+4:=⟨n - 4,by lia⟩;cases L<;>kernel_rfl
 | .no,h,_,_,_=>by obtain ⟨m,rfl⟩:∃ m,n = m+4:=⟨n - 4,by lia⟩;cases L<;>kernel_rfl
 | .word w ts,h,_,_,_=>by obtain ⟨m,rfl⟩:∃ m,n = m+4:=⟨n - 4,by lia⟩;cases L<;>kernel_rfl
 | .un .neg a,h,_,_,_=>by obtain ⟨m,rfl⟩:∃ m,n = m+4:=⟨n - 4,by lia⟩;cases L<;>kernel_rfl
 | .bi b x y,h,_,_,_=>by obtain ⟨m,rfl⟩:∃ m,n = m+4:=⟨n - 4,by lia⟩;cases L<;>cases b<;>kernel_rfl
 | .un .all a,h,h1,o,hp=>by
   simp only [hF] at h h1;have r:=lJ a n nm 0 (by lia) (by decide) (by lia) o;rw [uT (A:=a) hp (by lia)] at r;apply aX;refine aL fk rfl rfl rfl ?_;simp only [fk,init,SI,Nat.reduceAdd,Nat.reduceSub];refine bB 2 [.val (.str (sd L)),.val (enc (.un .all a)),.val (.str nm),.val (.str (sd (!L))),.no] (by cases L<;>kernel_rfl) (bD.mpr (dM ⟨true,_,by kernel_rfl,rfl,rfl⟩ ?_));simp only [enc,↓aK r,ak,ax,↓WS,↓WC,WI,↓reduceIte]
   exact ⟨by decide,by decide,by decide,rfl⟩
 | .un .ex a,h,h1,o,hp=>by
   simp only [hF] at h h1;have r:=lJ a n nm 0 (by lia) (by decide) (by lia) o;rw [uT (A:=a) hp (by lia)] at r;apply aX;refine aL fk rfl rfl rfl ?_;simp only [fk,init,SI,Nat.reduceAdd,Nat.reduceSub];refine bB 2 [.val (.str (sd L)),.val (enc (.un .ex a)),.val (.str nm),.val (.str (sd (!L))),.no] (by cases L<;>kernel_rfl) (bD.mpr (dM ⟨true,_,by kernel_rfl,rfl,rfl⟩ ?_));simp only [enc,↓aK r,ak,ax,↓WS,↓WC,WI,↓reduceIte];exact ⟨by decide,by decide,by decide,rfl⟩
noncomputable def wrd (p:Str × List Str):D:=.tup [.str "word",.str p.1,.tup (p.2.map .str)]
noncomputable def wds:F->List (Str × List Str)
 | .word w ts=>[(w,ts)]
 | .un _ a=>wds a
 | .bi _ x y=>wds x++wds y
 | _=>[]
theorem Fh (A:F):(wds A).flatMap (·.2) = tms A:=by
 induction A with
 | un u a ih=>exact ih
 | bi b x y i1 i2=>simp [wds,tms,i1,i2]
 | _=>simp [wds,tms]
theorem rY (A:F):(wds A).length<=sz A:=by
 induction A with
 | un u a ih=>simp only [wds,sz];lia
 | bi b x y i1 i2=>simp only [wds,sz,aj];lia
 | _=>simp [wds,sz]
theorem Ga:∀ (A:F) (n:Nat),hF A+1<=n->sz A<=61->PP.run Gs gls n 2 [enc A] = some (.lst ((wds A).map wrd))
 | .yes,n+2,h,_=>by kernel_rfl
 | .no,n+2,h,_=>by kernel_rfl
 | .word w ts,n+2,h,_=>by kernel_rfl
 | .un u a,n+2,h,hs=>by
   simp only [hF] at h;simp only [sz] at hs;have ih:=Ga a (n+1) (by lia) (by lia);have hl:=rY a;have ss:=s64;apply aX;have wi:PP.run Gs gls (n+1) 0 [enc (.un u a)] = some (.tup [enc a]):=by cases u<;>kernel_rfl
   refine aL dP rfl rfl rfl ?_;simp only [dP,init,SI,Nat.reduceAdd,Nat.reduceSub];refine bB 2 [.val (enc (.un u a)),.own [],.no] (by cases u<;>kernel_rfl) ?_;simp only [cM,↓aK wi,↓fi,↓fZ,↓aK ih,ao,ax,cQ,↓WS,↓WC,WI,↓reduceIte]
   exact ⟨by lia,rfl⟩
 | .bi b x y,n+2,h,hs=>by
   simp only [hF] at h;simp only [sz] at hs;have ih1:=Ga x (n+1) (by lia) (by lia);have ih2:=Ga y (n+1) (by lia) (by lia);have hl1:=rY x;have hl2:=rY y;have ss:=s64;apply aX;have wi:PP.run Gs gls (n+1) 0 [enc (.bi b x y)] = some (.tup [enc x,enc y]):=by cases b<;>kernel_rfl
   refine aL dP rfl rfl rfl ?_;simp only [dP,init,SI,Nat.reduceAdd,Nat.reduceSub];refine bB 2 [.val (enc (.bi b x y)),.own [],.no] (by cases b<;>kernel_rfl) ?_;simp only [cM,↓aK wi,↓fi,↓fZ,↓aK ih1,↓aK ih2,ao,ax,cQ,↓WS,↓WC,WI,↓reduceIte]
   exact ⟨by lia,by lia,by simp only [wds,aY]⟩
 | A,0,h,_=>by lia
 | A,1,h,_=>by cases A<;>simp only [hF] at h<;>lia
noncomputable def jg (A:F):List Str:=(tms A).filter isN
theorem Ax (A:F):((wds A).flatMap fun p=>(p.2.filter isN).map D.str) = (jg A).map D.str:=by
 unfold jg;rw [<- Fh]
 induction wds A with
 | nil=>rfl
 | cons p l ih=>simp [oi,ih,AZ]
noncomputable def okN (nms:List Str) (A:F):Prop:=sz A<=61/\hF A<=10/\(∀ t∈jg A,t∈nms)/\(tms A).length<=30
theorem Nv {nms:List Str} (hm:nms.length<=10) (n:Nat) (A:F) (hA:okN nms A) (h:hF A+1<=n):PP.run Gs gls (n+1) 3 [enc A] = some (.lst ((sdT (jg A)).map .str)):=by
 obtain ⟨hs,h2,hd,h6⟩:=hA;have hl:(jg A).length<=30:=bc (eV _ _) h6;have e:=Ga A n h hs;apply aX;refine aL jS rfl rfl rfl ?_;simp only [jS,init,SI,Nat.reduceAdd,Nat.reduceSub];obtain ⟨n',rfl⟩:∃ n',n = n'+1:=⟨n - 1,by lia⟩;simp only [↓xJ,↓aK e,↓WS,↓WC,WI,↓reduceIte];refine pD wrd (fun p=>(p.2.filter isN).map D.str) _ ?_ ?_
 . intro p _;unfold wrd;simp only [SI,↓WS,↓WC,WI,↓reduceIte];refine oN D.str isN D.str (fun δ=>∃ s:Sl,δ = [.val (enc A),.val (.tup [.str "word",.str p.1,.tup (p.2.map .str)]),s]) _ _ ?_ ⟨_,rfl⟩ ?_
   . rintro t _ δ ⟨s,rfl⟩;simp only [↓aK (HI _ t),Bool.not_not,↓WS,↓WC,WI,↓reduceIte];refine ⟨trivial,?_⟩;split
     . exact ⟨trivial,_,rfl⟩
     . exact ⟨_,rfl⟩
   . rintro δ ⟨s,rfl⟩;exact ⟨rfl,rfl⟩
 . rw [Ax];have:=nI hd;refine ⟨_,strs_map _,⟨by lia,by lia⟩,?_⟩;rw [CD]
noncomputable def sV (r:List It):List Str:=r.flatMap fun p=>sdT (jg p.2)
theorem iF {r:List It} {x:Str}:x∈sV r↔∃ p∈r,x∈jg p.2:=by
 unfold sV;rw [List.mem_flatMap];exact ⟨fun ⟨p,hp,h⟩=>⟨p,hp,sE.mp h⟩,fun ⟨p,hp,h⟩=>⟨p,hp,sE.mpr h⟩⟩
theorem Nw {nms:List Str} (hm:nms.length<=10) (n:Nat) (hn10:13<=n) (r:List It) (hr:r.length<=63) (hA:∀ p∈r,okN nms p.2):PP.run Gs gls (n+1) 9 [.tup (r.map itD)] = some (.lst ((sdT (sV r)).map .str)):=by
 apply aX
 have hd:∀ x∈sV r,x∈nms:=fun x hx=>by
  obtain ⟨p,hp,hx⟩:=iF.mp hx;exact (hA p hp).2.2.1 x hx
 have hl:(sV r).length<=10 * r.length:=by
  have:∀ l:List It,(∀ p∈l,(sdT (jg p.2)).length<=10)->(l.flatMap fun p=>sdT (jg p.2)).length<=10 * l.length:=fun l=>by
   induction l with
   | nil=>intro _;simp
   | cons p l ih =>
     intro h;have h1:=h p ay;have h2:=ih fun q hq=>h q (au _ hq);simp only [oi,aj,ak]
     lia
  refine this r fun p hp=>?_;rw [FX];have:=nI (hA p hp).2.2.1
  lia
 refine aL jT rfl rfl rfl ?_;simp only [jT,init,SI,Nat.reduceAdd,Nat.reduceSub];obtain ⟨n',rfl⟩:∃ n',n = n'+1:=⟨n - 1,by lia⟩;simp only [↓xJ,↓WS,↓WC,WI,↓reduceIte];refine pD itD (fun p=>(sdT (jg p.2)).map D.str) _ ?_ ?_
 . intro p hp;unfold itD;have e:=Nv hm n' p.2 (hA p hp) (by have:=(hA p hp).2.1;lia);simp only [SI,↓aK e,↓WS,↓WC,WI,↓reduceIte];refine oN D.str (fun _=>true) D.str (fun δ=>∃ s:Sl,δ = [.val (.tup (r.map fun p=>.tup [.str (sd p.1),enc p.2])),.val (.str (sd p.1)),.val (enc p.2),s]) _ _ ?_ ⟨_,rfl⟩ ?_
   . rintro t _ δ ⟨s,rfl⟩;simp only [↓WS,↓WC,WI,↓reduceIte];exact ⟨trivial,trivial,_,rfl⟩
   . rintro δ ⟨s,rfl⟩;refine ⟨?_,rfl⟩;rw [dU.mpr fun _ _=>rfl]
 . have em:(r.flatMap fun p=>(sdT (jg p.2)).map D.str) = (sV r).map D.str:=by
    unfold sV;rw [List.map_flatMap]
   rw [em];have:=nI hd;refine ⟨_,strs_map _,⟨by lia,by lia⟩,?_⟩;rw [CD]
noncomputable def dig:Str:="0123456789"
theorem Ka {t:Str} (h:nm t):sT dig t = false:=by
 cases e:sT dig t with
 | false=>rfl
 | true =>
   obtain ⟨i,h1,h2⟩:=(PySem.StrLaws.found_iff dig t).mp e;obtain ⟨c,r,ec,h3,h4⟩:=h;unfold uq at h2;have h2':=eq_of_beq h2;have h5:(dig.cps.extract i (i+t.length)).toList = c::r:=by rw [h2',ec]
   have hm:c∈dig.cps.toList:=by
    have:c∈(dig.cps.extract i (i+t.length)).toList:=by rw [h5];exact ay
    rw [Array.toList_extract] at this;exact ze (zd (by simpa [List.extract] using this))
   have hd:∀ c∈dig.cps.toList,c < 97:=by decide +kernel
   have:=hd c hm
   lia
theorem JZ {j:Int} (h0:0<=j) (h1:j < 10):sT dig (pl j) = true:=by
 obtain ⟨m,rfl⟩:=vU h0;have:∀ j:Fin 10,decide ((pl ((j.val:Nat):Int)).length<=dig.length - j.val) = true/\uq dig (pl ((j.val:Nat):Int)) j.val = true:=by decide +kernel
 obtain ⟨a,b⟩:=this ⟨m,by lia⟩;unfold sT;refine (PySem.StrLaws.found_iff dig _).mpr ⟨m,?_,b⟩;have a:=of_decide_eq_true a;have hd:dig.length = 10:=by decide +kernel
 rw [hd] at a ⊢;have hm:m < 10:=by lia
 dsimp only at a
 lia
theorem Mw {t:Str} (h:Pd t):(!sT dig t) = isN t:=by
 rcases h with h | ⟨j,j0,j1,rfl⟩
 . rw [Ka h,tF h];rfl
 . rw [JZ j0 j1,pV j0];rfl
theorem uz {a b:Str} {Q:Bool->Prop}:jj .notin (.str a) (.str b) Q↔Q (!sT b a):=by
 unfold jj;exact ⟨fun ⟨_,e,q⟩=>by cases e;exact q,fun q=>⟨_,rfl,q⟩⟩
theorem mr:∀ (A:F) (n:Nat),hF A<=n->(∀ t∈tms A,Pd t)->(tms A).length<=30->PP.run Gs gls n 25 [enc A] = some (.lst ((jg A).map .str))
 | .yes,n+1,h,_,_=>by kernel_rfl
 | .no,n+1,h,_,_=>by kernel_rfl
 | .word w ts,n+1,h,hp,hl=>by
   have hl:ts.length<=30:=hl;apply aX;refine aL dy rfl rfl rfl ?_;simp only [dy,init,SI,Nat.reduceAdd,Nat.reduceSub];simp only [enc,HU,↓WS,↓WC,WI,↓reduceIte];refine ir D.str isN D.str ts ?_ ?_
   . intro t ht;have:=Mw (hp t ht);unfold dig at this;simp only [SI,↓uz,↓WS,↓WC,WI,↓reduceIte];refine ⟨this,?_⟩;split
     . exact ⟨trivial,rfl⟩
     . rfl
   . refine ⟨?_,rfl⟩;rw [ao]
     exact small (bc (eV _ _) (by lia))
 | .un u a,n+1,h,hp,hl=>by
   have ih:=mr a n (by simp only [hF] at h;lia) hp hl;have h30:(jg a).length<=30:=bc (eV _ _) hl;have ss:=s64;apply aX;refine aL dy rfl rfl rfl ?_;simp only [dy,init,SI,Nat.reduceAdd,Nat.reduceSub];refine bB 2 [.val (enc (.un u a)),.val (.lst []),.no] (by cases u<;>kernel_rfl) ?_;simp only [cM,enc,↓mX,↓fi,↓fZ,↓aK ih,ao,ax,cQ,↓WS,↓WC,WI,↓reduceIte]
   exact ⟨by lia,rfl⟩
 | .bi b x y,n+1,h,hp,hl=>by
   have hl:(tms x++tms y).length<=30:=hl;rw [aj] at hl;have ih1:=mr x n (by simp only [hF] at h;lia) (fun t z=>hp t (cV _ z)) (by lia);have ih2:=mr y n (by simp only [hF] at h;lia) (fun t z=>hp t (aO _ z)) (by lia);have h1:(jg x).length<=(tms x).length:=eV _ _;have h2:(jg y).length<=(tms y).length:=eV _ _;have ss:=s64;apply aX;refine aL dy rfl rfl rfl ?_;simp only [dy,init,SI,Nat.reduceAdd,Nat.reduceSub];refine bB 2 [.val (enc (.bi b x y)),.val (.lst []),.no] (by cases b<;>kernel_rfl) ?_;simp only [cM,enc,↓mX,↓fi,↓fZ,↓aK ih1,↓aK ih2,ao,ax,cQ,↓WS,↓WC,WI,↓reduceIte]
   exact ⟨by lia,by lia,by simp only [jg,tms,AZ,aY]⟩
 | A,0,h,_,_=>by cases A<;>simp only [hF] at h<;>lia
noncomputable def bnd:F->Bool
 | .un .neg _=>false
 | .un _ _=>true
 | _=>false
noncomputable def own (L:Bool):F->Bool
 | .un .all _=>!L
 | .un .ex _=>L
 | _=>false
theorem LR (n:Nat) (L:Bool) (A:F):PP.run Gs gls (n+1) 13 [.str (sd L),enc A] = some (.bl (own L A)):=by
 cases A with
 | un u a=>cases u<;>cases L<;>kernel_rfl
 | bi b x y=>cases b<;>cases L<;>kernel_rfl
 | _=>cases L<;>kernel_rfl
theorem NS (A:F):(bds.any fun y=>eqD y (.str (hd A))) = bnd A:=by
 cases A with
 | un u a=>cases u<;>kernel_rfl
 | bi b x y=>cases b<;>kernel_rfl
 | _=>kernel_rfl
theorem BK {a b:Bool} {Q:Bool->Prop}:jj .ne (.bl a) (.bl b) Q↔Q (!(a == b)):=yr
theorem iy {a b:Str} {Q:Bool->Prop}:jj .ne (.str a) (.str b) Q↔Q (!(a == b)):=yr
noncomputable def inN (row:List It) (nm:Str):Bool:=decide (nm∈sV row)
noncomputable def stB (row:List It) (L:Bool) (A:F) (nm:Str):Bool:=has row (L,A) && (bnd A == !(nm == "")) && !(own L A && inN row nm)
noncomputable def Hg (L:Bool) (A:F) (nm:Str) (ks:List D):D:=.tup [.str "rule",.str (sd L),enc A,.str nm,.tup ks]
theorem uF (xs:List Str) (nm:Str):((xs.map D.str).any fun y=>eqD y (.str nm)) = decide (nm∈xs):=by
 induction xs with
 | nil=>rfl
 | cons x xs ih =>
   rw [aU,jA,ih];have e:eqD (.str x) (.str nm) = decide (x = nm):=by unfold eqD;by_cases h:x = nm<;>simp [h]
   rw [e];by_cases h:x = nm
   . simp [h]
   . simp [h,Ne.symm h,aC,show ¬ nm = x from fun z=>h z.symm]
theorem CI {nms:List Str} (hm:nms.length<=10) (n:Nat) (hn:14<=n) (row:List It) (L:Bool) (A:F) (nm:Str) (ks:List D) (hl:low row) (hr:row.length<=63) (hA:∀ p∈row,okN nms p.2) (hs:sz A<=61):PP.run Gs gls (n+1) 17 [.tup (row.map itD),Hg L A nm ks] = some (.bl (stB row L A nm)):=by
 obtain ⟨m,rfl⟩:∃ m,n = m+1:=⟨n - 1,by lia⟩;have w1:=LR m L A;have w2:=Nw hm m (by lia) row hr hA;apply aX;refine aL iU rfl rfl rfl ?_;simp only [iU,init,SI,Nat.reduceAdd,Nat.reduceSub];refine bB 1 [.val (.tup (row.map itD)),.val (Hg L A nm ks),.val (.str (sd L)),.val (enc A),.val (.str nm)] (by kernel_rfl) ?_;simp only [cM,↓aK w1,↓aK w2,↓LC,ak,ax,↓WS,↓WC,WI,↓reduceIte]
 have hin:qo .notin (itD (L,A)) (.tup (row.map itD)) = some (!has row (L,A)):=by
  show (inD (itD (L,A)) (.tup (row.map itD))).map (!·) = _;unfold inD;dsimp only;rw [if_pos (vk hl (q:=(L,A)) hs)];rfl
 refine ⟨by decide,_,hin,?_⟩
 cases hh:has row (L,A) with
 | false=>exact hZ (by unfold stB;rw [hh];rfl)
 | true =>
   refine iN ?_;rw [gO A];refine iw.mpr ⟨⟨by rw [jR];decide,by decide +kernel⟩,iy.mpr (BK.mpr ?_)⟩;rw [NS];unfold stB;rw [hh,eU]
   cases hb:(bnd A == !(nm == "")) with
   | false=>exact hZ rfl
   | true =>
     refine iN ?_
     cases ho:own L A with
     | false=>exact iN rfl
     | true =>
       refine hZ ⟨_,?_,rfl⟩;show inD (.str nm) (.lst _) = _;unfold inD;dsimp only;rw [if_pos ⟨by rw [jR];decide,by rw [mE];decide⟩,uF];unfold inN;simp only [sE,eU]
theorem kP (f:Str->Int->Str):∀ (A:F) (k:Int),sz (eS f A k) = sz A
 | .yes,_ | .no,_ | .word _ _,_=>rfl
 | .un u a,k=>by simp only [eS,sz,kP f a]
 | .bi b x y,k=>by simp only [eS,sz,kP f x,kP f y]
noncomputable def sbs:F->List F
 | .un _ a=>[a]
 | .bi _ x y=>[x,y]
 | _=>[]
theorem xW {A a:F} (h:a∈sbs A):hF a<=hF A/\sz a<=sz A/\(tms a).length<=(tms A).length/\∀ t∈tms a,t∈tms A:=by
 cases A with
 | un u b =>
   obtain rfl:=bu.mp h
   exact ⟨ik _,ik _,aB _,fun _ z=>z⟩
 | bi c x y =>
   simp only [sbs,aC,aQ,or_false] at h;simp only [hF,sz,tms,aj,aP];rcases h with rfl | rfl
   . exact ⟨by lia,by lia,by lia,fun _ z=>.inl z⟩
   . exact ⟨by lia,by lia,by lia,fun _ z=>.inr z⟩
 | _=>cases h
theorem yS (L:Bool) (nm:Str) (A:F):∀ b∈brs L nm A,0 < b.length/\b.length<=2/\∀ p∈b,∃ a∈sbs A,p.2 = a\/(bnd A = true/\p.2 = eS (pf nm) a 0):=by
 cases A with
 | un u a=>cases u<;>simp [brs,sbs,bnd]
 | bi c x y=>cases c<;>cases L<;>simp [brs,sbs,bnd]
 | _=>simp [brs]
theorem xo {L:Bool} {nm:Str} {A:F} (hs:sz A<=61) (b:List It) (hb:b∈brs L nm A):b.length<=2/\low b:=by
 obtain ⟨_,h2,h3⟩:=yS L nm A b hb;refine ⟨h2,fun p hp=>?_⟩;obtain ⟨a,ha,e⟩:=h3 p hp;have:=(xW ha).2.1;rcases e with e | ⟨_,e⟩
 . rw [e];lia
 . rw [e,kP];lia
theorem Hn (L:Bool) (nm:Str) (A:F):(brs L nm A).length<=2:=by
 cases A with
 | un u a=>cases u<;>simp [brs]
 | bi c x y=>cases c<;>cases L<;>simp [brs]
 | _=>simp [brs]
section
variable {L:Bool} {nm:Str} {A:F} {ks:List D} (hs:sz A<=61) (hF9:hF A<=10) (o:okF A) (hp:∀ t∈tms A,Pd t)
include hs hF9 o hp
theorem Gi (n:Nat) (hn:20<=n):PP.run Gs gls (n+1) 15 [Hg L A nm ks] = some (brD (brs L nm A)):=by
 obtain ⟨m,rfl⟩:∃ m,n = m+1:=⟨n - 1,by lia⟩;have w:=Gb m L nm A (by lia) (by lia) o hp;apply aX;refine aL gB rfl rfl rfl ?_;simp only [gB,init,SI,Nat.reduceAdd,Nat.reduceSub];unfold Hg;refine bD.mpr (dM ?_ ?_)
 . simp only [↓WS,↓WC,WI,↓reduceIte];exact ⟨by decide +kernel,trivial⟩
 . simp only [↓WS,↓WC,WI,↓reduceIte];exact ⟨.str nm,by kernel_rfl,(aK w).mpr rfl⟩
end
theorem ye (n:Nat) (hn:4<=n) (row:List It) (X:D) (l:List (List It)) (w:PP.run Gs gls n 15 [X] = some (brD l)) (bl:l.length<=2) (hb:∀ b∈l,b.length<=2/\low b) (hl:low row) (hr:row.length<=60):PP.run Gs gls (n+1) 16 [.tup (row.map itD),X] = some (.lst (l.map fun b=>.tup ((mo (row++b)).map itD))):=by
 obtain ⟨m,rfl⟩:∃ m,n = m+2:=⟨n - 2,by lia⟩;have ss:=s64;apply aX;refine aL ic rfl rfl rfl ?_;simp only [ic,init,SI,Nat.reduceAdd,Nat.reduceSub];simp only [↓aK w,brD,↓WS,↓WC,WI,↓reduceIte];refine ir (fun b:List It=>D.lst (b.map itD)) (fun _=>true) (fun b=>.tup ((mo (row++b)).map itD)) l (fun b hb'=>?_) ⟨?_,?_⟩
 . obtain ⟨b1,b2⟩:=hb b hb';have w2:=Jj m row b _ (.inl rfl) (hl.app b2) (by lia);simp only [SI,↓aK w2,↓WS,↓WC,WI,↓reduceIte];exact ⟨trivial,trivial,rfl⟩
 . rw [ao,dU.mpr fun _ _=>rfl];lia
 . rw [dU.mpr fun _ _=>rfl]
theorem Ab (n:Nat) (ps:List It) (h:low ps) (hl:ps.length<=1000):PP.run Gs gls (n+1) 27 [.lst (ps.map itD)] = some (.bl (cl ps)):=by
 have ss:=s64;have dl:=mF h;apply aX;refine aL gF rfl rfl rfl ?_;simp only [gF,init,SI,Nat.reduceAdd,Nat.reduceSub];simp only [ak,ax,↓WS,↓WC,WI,↓reduceIte]
 have inL:∀ {q:It} {Q:Bool->Prop},sz q.2<=61->Q (has ps q)->jj .isin (itD q) (.lst (ps.map itD)) Q:=fun {q Q} hq k=>by
  refine ⟨_,?_,k⟩;show inD (itD q) (.lst (ps.map itD)) = _;unfold inD;dsimp only;rw [if_pos (vk h hq)];rfl
 refine ⟨by decide,by decide,inL (q:=(true,.no)) (by simp [sz]) (kg (fun h1=>?_) fun h1=>⟨by decide,by decide,inL (q:=(false,.yes)) (by simp [sz]) (kg (fun h2=>?_) fun h2=>?_)⟩)⟩
 . unfold cl;rw [h1,iM,ox]
 . unfold cl;rw [h2,iM]
 . have e1:has ps (true,.no) = false:=fg.mpr h1;have e2:has ps (false,.yes) = false:=fg.mpr h2;have ec:cl ps = ps.any fun p=>p.1 && has ps (false,p.2):=by unfold cl;rw [e1,e2];rfl
   rw [ec];refine gb (g:=itD) (fun rest δ=>∃ s1 s2:Sl,δ = [.val (.lst (ps.map itD)),s1,s2]/\(∀ p∈rest,p∈ps)/\(ps.any fun p=>p.1 && has ps (false,p.2)) = rest.any fun p=>p.1 && has ps (false,p.2)) ?_ ?_ _ _ ⟨_,_,rfl,fun _ z=>z,rfl⟩
   . rintro ⟨b,A⟩ rest δ ⟨s1,s2,rfl,hm,e⟩;show wTg _ (Tg.tp [1,2]) (D.tup [D.str (sd b),enc A]) _;simp only [↓me,Je,SI,↓WS,↓WC,WI,↓reduceIte];rw [e,jA]
     cases b with
     | false=>exact ⟨_,_,rfl,fun p z=>hm p (au _ z),rfl⟩
     | true =>
       refine ⟨by decide,inL (q:=(false,A)) (h (true,A) (hm _ ay)) ?_⟩
       cases hh:has ps (false,A) with
       | true=>exact hZ (by simp [hh])
       | false=>exact iN ⟨_,_,rfl,fun p z=>hm p (au _ z),by simp [hh]⟩
   . rintro δ ⟨s1,s2,rfl,_,e⟩;simp only [↓WS,↓WC,WI,↓reduceIte];rw [e];rfl
noncomputable def oB (row:List It) (L:Bool) (A:F) (nm:Str):Bool:=!(nm == "") && !(own L A && inN row nm)
theorem Kw {A:F} (hb:bnd A = true) (L:Bool):(L == (hd A == "all")) = !own L A:=by
 cases A with
 | un u a =>
   cases u with
   | neg=>cases hb
   | all=>cases L<;>kernel_rfl
   | ex=>cases L<;>kernel_rfl
 | _=>cases hb
theorem DY (p:It) (r:List It) (nm:Str):inN (p::r) nm = (decide (nm∈jg p.2) || inN r nm):=by
 unfold inN;by_cases h1:nm∈jg p.2<;>by_cases h2:nm∈sV r<;>simp only [h1,h2,decide_true,decide_false,ox,ur,iM]
 all_goals first | (refine decide_eq_true (iF.mpr ?_)) | (refine decide_eq_false fun z=>?_)
 . exact ⟨p,ay,h1⟩
 . exact ⟨p,ay,h1⟩
 . obtain ⟨q,hq,z⟩:=iF.mp h2;exact ⟨q,au _ hq,z⟩
 . obtain ⟨q,hq,z2⟩:=iF.mp z;rcases aC.mp hq with rfl | hq2
   . exact h1 z2
   . exact h2 (iF.mpr ⟨q,hq2,z2⟩)
theorem Jm (n:Nat) (hn:12<=n) (row:List It) (L:Bool) (A:F) (nm:Str) (hb:bnd A = true) (hA:∀ p∈row,hF p.2<=10/\(∀ t∈tms p.2,Pd t)/\(tms p.2).length<=30):PP.run Gs gls (n+1) 28 [.lst (row.map itD),.str (sd L),enc A,.str nm] = some (.bl (oB row L A nm)):=by
 have he:=Kw hb L;apply aX;refine aL jV rfl rfl rfl ?_;simp only [jV,init,SI,Nat.reduceAdd,Nat.reduceSub];rw [gO A];simp only [Je,↓iy,↓WS,↓WC,WI,↓reduceIte];refine kg (fun e=>?_) fun e=>⟨_,rfl,?_⟩
 . unfold oB;rw [e];rfl
 have e:(nm == "") = false:=fg.mpr e;show if (L == (hd A == "all")) = true then _ else _
 rw [he]
 cases ho:own L A with
 | false=>exact hZ (by unfold oB;rw [ho,e];rfl)
 | true =>
   refine iN ?_;have eo:oB row L A nm = !inN row nm:=by unfold oB;rw [ho,e];rfl
   rw [eo];refine gb (g:=itD) (fun rest δ=>∃ s:Sl,δ = [.val (.lst (row.map itD)),.val (.str (sd L)),.val (.tup (.str (hd A)::tl A)),.val (.str nm),s]/\(∀ p∈rest,p∈row)/\inN row nm = inN rest nm) ?_ ?_ _ _ ⟨_,rfl,fun _ z=>z,rfl⟩
   . rintro p rest δ ⟨s,rfl,hm,e2⟩;obtain ⟨a1,a2,a3⟩:=hA p (hm p ay);have w:=mr p.2 n (by lia) a2 a3;simp only [itD,↓aK w,↓WS,↓WC,WI,↓reduceIte];refine ⟨decide (nm∈jg p.2),?_,?_⟩
     . show inD (.str nm) (.lst _) = _;unfold inD;dsimp only;rw [if_pos ⟨by rw [jR];decide,by rw [mE];decide⟩,uF]
     . rw [e2,DY]
       cases hd:decide (nm∈jg p.2) with
       | true=>exact hZ (by simp)
       | false=>exact iN ⟨_,rfl,fun q z=>hm q (au _ z),by rw [Bool.false_or]⟩
   . rintro δ ⟨s,rfl,_,e2⟩;simp only [↓WS,↓WC,WI,↓reduceIte];rw [e2];rfl
mutual
inductive T where
 | close | rule (L:Bool) (A:F) (nm:Str) (ks:Ts) | cut (A:F) (a b:T)
inductive Ts where
 | nil | cons (t:T) (r:Ts)
end
mutual
noncomputable def eT:T->D
 | .close=>.tup [.str "close"]
 | .rule L A nm ks=>.tup [.str "rule",.str (sd L),enc A,.str nm,.tup (eTs ks)]
 | .cut A a b=>.tup [.str "cut",enc A,.tup [eT a,eT b]]
noncomputable def eTs:Ts->List D
 | .nil=>[]
 | .cons t r=>eT t::eTs r
end
mutual
noncomputable def ht:T->Nat
 | .close=>1
 | .rule _ _ _ ks=>hts ks+1
 | .cut _ a b=>max (ht a) (ht b)+1
noncomputable def hts:Ts->Nat
 | .nil=>0
 | .cons t r=>max (ht t) (hts r)
end
noncomputable def tln:Ts->Nat
 | .nil=>0
 | .cons _ r=>tln r+1
theorem tU:∀ ks:Ts,(eTs ks).length = tln ks
 | .nil=>rfl
 | .cons _ r=>by show (eTs r).length+1 = _;rw [tU r];rfl
noncomputable def Go (xs:List Str) (A:F):Prop:=hF A<=10/\sz A<=61/\(tms A).length<=30/\∀ t∈tms A,t∈xs\/∃ j:Int,0<=j/\j < 10/\t = pl j
mutual
noncomputable def okT (xs:List Str):T->Prop
 | .close=>True
 | .rule _ A w ks=>Go xs A/\(w = ""\/w∈xs)/\wN xs ks
 | .cut A a b=>Go xs A/\okT xs a/\okT xs b
noncomputable def wN (xs:List Str):Ts->Prop
 | .nil=>True
 | .cons t r=>okT xs t/\wN xs r
end
mutual
theorem yL {xs:List Str}:∀ t:T,okT xs t->dep (eT t)<=2 * ht t+64
 | .close,_=>by rw [show dep (eT .close) = 1 by decide +kernel];lia
 | .rule L A w ks,h=>by
   have h1:=kS A;have h2:=h.1.2.1;have h3:=Em ks h.2.2;have e:dep (D.tup (eTs ks)) = cN (eTs ks)+1:=by unfold dep;rfl
   simp only [eT,ht,dep,cN,jR]
   lia
 | .cut A a b,h=>by
   have h1:=kS A;have h2:=h.1.2.1;have h3:=yL a h.2.1;have h4:=yL b h.2.2;simp only [eT,ht,dep,cN,jR]
   lia
theorem Em {xs:List Str}:∀ ks:Ts,wN xs ks->cN (eTs ks)<=2 * hts ks+64
 | .nil,_=>by simp [eTs,cN]
 | .cons t r,h=>by
   have h1:=yL t h.1;have h2:=Em r h.2;simp only [eTs,hts,cN]
   lia
end
theorem oY (as:List D):dep (.tup as) = cN as+1:=by unfold dep;rfl
theorem tM {as bs:List D} (h:min (cN as) (cN bs)<=149) (h2:max (cN as) (cN bs) < 99999) {Q:Bool->Prop} (k:Q (eqD (.tup as) (.tup bs))):jj .eq (.tup as) (.tup bs) Q:=by
 refine ⟨_,?_,k⟩;have e1:=oY as;have e2:=oY bs
 have hd:gH (.tup as) (.tup bs) = true:=by
  unfold gH;rw [show kin (.tup as) (.tup bs) = true from rfl,e1,e2,eU,aa,decide_eq_true_eq,decide_eq_true_eq]
  lia
 show (if gH (.tup as) (.tup bs) = true then some (eqD (.tup as) (.tup bs)) else _) = _;rw [if_pos hd]
theorem xM {c:Nat->List D->Option D} {f:Nat->Bool} {δ:PP.Loc} {Q:D->PP.Loc->Prop}:wE ⟨c,gls,f⟩ (.glob 4) δ Q↔Q (.tup [.str "close"]) δ:=xK.trans ⟨fun ⟨d,e,q⟩=>by cases e;exact q,fun q=>⟨_,rfl,q⟩⟩
noncomputable def isC:T->Bool
 | .close=>true
 | _=>false
theorem eqC {xs:List Str} {t:T} (h:okT xs t) (hh:ht t<=1000) {Q:Bool->Prop} (k:Q (isC t)):jj .eq (eT t) (.tup [.str "close"]) Q:=by
 have hd:=yL t h;have e2:cN [D.str "close"] = 0:=by decide +kernel
 cases t with
 | close=>exact tM (by decide +kernel) (by decide +kernel) (by rw [show eqD (D.tup [.str "close"]) (.tup [.str "close"]) = true by decide +kernel];exact k)
 | rule L A w ks =>
   have e1:=oY [.str "rule",.str (sd L),enc A,.str w,.tup (eTs ks)];have hd:dep (D.tup [.str "rule",.str (sd L),enc A,.str w,.tup (eTs ks)])<=_:=hd;refine tM (by rw [e2];lia) (by rw [e2];lia) ?_;rw [show eqD (D.tup [.str "rule",.str (sd L),enc A,.str w,.tup (eTs ks)]) (.tup [.str "close"]) = false by kernel_rfl]
   exact k
 | cut A a b =>
   have e1:=oY [.str "cut",enc A,.tup [eT a,eT b]];have hd:dep (D.tup [.str "cut",enc A,.tup [eT a,eT b]])<=_:=hd;refine tM (by rw [e2];lia) (by rw [e2];lia) ?_;rw [show eqD (D.tup [.str "cut",enc A,.tup [eT a,eT b]]) (.tup [.str "close"]) = false by kernel_rfl];exact k
noncomputable def kT:T->List D
 | .close=>[]
 | .rule _ _ _ ks=>eTs ks
 | .cut _ a b=>[eT a,eT b]
theorem CN (n:Nat) {xs:List Str} (t:T) (h:okT xs t) (hh:ht t<=1000):PP.run Gs gls (n+1) 14 [eT t] = some (.tup (kT t)):=by
 apply aX;refine aL kX rfl rfl rfl ?_;simp only [kX,init,SI,Nat.reduceAdd,Nat.reduceSub];simp only [↓xM,↓WS,↓WC,WI,↓reduceIte];refine eqC h hh ?_
 cases t with
 | close=>simp only [isC,↓WS,↓WC,WI,↓reduceIte];exact ⟨by decide,rfl⟩
 | rule L A w ks=>simp only [isC,↓WS,↓WC,WI,↓reduceIte];exact ⟨.tup (eTs ks),by kernel_rfl,rfl⟩
 | cut A a b=>simp only [isC,↓WS,↓WC,WI,↓reduceIte];exact ⟨.tup [eT a,eT b],by kernel_rfl,rfl⟩
theorem nC:∀ {A:F},(tms A).length<=1000->okF A
 | .yes,_ | .no,_=>trivial
 | .word _ _,h=>h
 | .un _ a,h=>nC (A:=a) h
 | .bi _ x y,h=>by
   have h:(tms x++tms y).length<=1000:=h;rw [aj] at h;exact ⟨nC (by lia),nC (by lia)⟩
theorem kA (f:Str->Int->Str):∀ (A:F) (k:Int),(tms (eS f A k)).length = (tms A).length/\∀ t∈tms (eS f A k),∃ s∈tms A,∃ j,t = f s j
 | .yes,_ | .no,_=>⟨rfl,fun t h=>by cases h⟩
 | .word w ts,k=>⟨by simp [eS,tms],fun t h=>by
   obtain ⟨s,hs,rfl⟩:=bx.mp h
   exact ⟨s,hs,k,rfl⟩⟩
 | .un u a,k=>kA f a (k+up u)
 | .bi b x y,k=>by
   obtain ⟨a1,a2⟩:=kA f x k;obtain ⟨b1,b2⟩:=kA f y k;refine ⟨by simp only [eS,tms,aj,a1,b1],fun t h=>?_⟩;rcases aP.mp h with h | h
   . obtain ⟨s,hs,e⟩:=a2 t h;exact ⟨s,cV _ hs,e⟩
   . obtain ⟨s,hs,e⟩:=b2 t h;exact ⟨s,aO _ hs,e⟩
theorem ED {xs:List Str} {L:Bool} {w:Str} {A:F} (hw:w∈xs\/bnd A = false) (h:Go xs A) (b:List It) (hb:b∈brs L w A):b.length<=2/\∀ p∈b,Go xs p.2:=by
 obtain ⟨_,h2,h3⟩:=yS L w A b hb;refine ⟨h2,fun p hp=>?_⟩;obtain ⟨a,ha,e⟩:=h3 p hp;obtain ⟨k1,k2,k3,k4⟩:=xW ha;have ha:Go xs a:=⟨bc k1 h.1,bc k2 h.2.1,bc k3 h.2.2.1,fun t ht=>h.2.2.2 t (k4 t ht)⟩;rcases e with e | ⟨hb,e⟩
 . rw [e];exact ha
 . obtain ⟨q1,q2⟩:=kA (pf w) a 0;obtain ⟨a1,a2,a3,a4⟩:=ha;rw [e];refine ⟨by rw [my];exact a1,by rw [kP];exact a2,by rw [q1];exact a3,fun t ht=>?_⟩;obtain ⟨s,hs,j,rfl⟩:=q2 t ht;unfold pf;split
   . rcases hw with hw | hw
     . exact .inl hw
     . rw [hw] at hb;cases hb
   . exact a4 s hs
section
variable {xs:List Str} (hx:∀ t∈xs,nm t)
include hx
theorem Go.pd {A:F} (h:Go xs A):∀ t∈tms A,Pd t:=fun t ht=>(h.2.2.2 t ht).imp (hx t) id
theorem Go.okN {A:F} (h:Go xs A):okN xs A:=by
 refine ⟨h.2.1,h.1,fun t ht=>?_,h.2.2.1⟩;unfold jg at ht;obtain ⟨h1,h2⟩:=qA.mp ht;rcases h.2.2.2 t h1 with z | ⟨j,j0,_,rfl⟩
 . exact z
 . rw [pV j0] at h2;cases h2
end
noncomputable def adds:T->List (List It)
 | .close=>[]
 | .rule L A w _=>brs L w A
 | .cut A _ _=>[[(false,A)],[(true,A)]]
mutual
noncomputable def lj:List It->T->Bool
 | row,.close=>cl row
 | row,.rule L A w ks=>stB row L A w && ((!(brs L w A).isEmpty) && ((brs L w A).length == tln ks) && mD row (brs L w A) ks)
 | row,.cut A a b=>lj (mo (row++[(false,A)])) a && lj (mo (row++[(true,A)])) b
noncomputable def mD:List It->List (List It)->Ts->Bool
 | row,b::bs,.cons t r=>lj (mo (row++b)) t && mD row bs r
 | _,_,_=>true
end
section
variable {xs:List Str} (hx:∀ t∈xs,nm t) (hm:xs.length<=10)
theorem Go.lows {row:List It} (h:∀ p∈row,Go xs p.2):low row:=fun p hp=>(h p hp).2.1
theorem CQ (n:Nat) (hn:20<=n) (t:T) (hc:isC t = false) (ho:okT xs t) (hx:∀ t∈xs,nm t):PP.run Gs gls (n+1) 15 [eT t] = some (brD (adds t)):=by
 cases t with
 | close=>cases hc
 | rule L A w ks=>exact Gi (ks:=eTs ks) (nm:=w) (L:=L) ho.1.2.1 ho.1.1 (nC (by have:=ho.1.2.2.1;lia)) (Go.pd hx ho.1) n hn
 | cut A a b=>kernel_rfl
theorem yW {t:T} (ho:okT xs t) {b:List It} (hb:b∈adds t):b.length<=2/\low b:=by
 cases t with
 | close=>cases hb
 | rule L A w ks=>exact xo ho.1.2.1 b hb
 | cut A a c =>
   simp only [adds,aC,aQ,or_false] at hb;rcases hb with rfl | rfl<;>exact ⟨by simp,low.one ho.1.2.1⟩
theorem vK (t:T):(adds t).length<=2:=by
 cases t with
 | close=>simp [adds]
 | rule L A w ks=>exact Hn L w A
 | cut A a c=>simp [adds]
theorem DG {row b:List It} (h:∀ p∈row,Go xs p.2) (hb:∀ p∈b,Go xs p.2):∀ p∈mo (row++b),Go xs p.2:=fun p hp=>(aP.mp (DF.mp hp)).elim (h p) (hb p)
include hx hm
mutual
theorem sL:∀ (t:T) (n:Nat) (row:List It),ht t+40<=n->okT xs t->(∀ p∈row,Go xs p.2)->row.length+2 * ht t<=60->PP.run Gs gls n 18 [.tup (row.map itD),eT t] = some (.bl (lj row t))
 | .close,n,row,h,ho,hr,hl=>by
   obtain ⟨n,rfl⟩:∃ k,n = k+2:=⟨n - 2,by lia⟩;have w:=CP n row (Go.lows hr) (by lia);apply aX;refine aL kE rfl rfl rfl ?_;simp only [kE,init,SI,Nat.reduceAdd,Nat.reduceSub];refine bD.mpr (dM ?_ ?_)
   . simp only [↓xM,↓WS,↓WC,WI,↓reduceIte];exact eqC (xs:=xs) (t:=.close) trivial (by simp [ht]) ⟨rfl,trivial⟩
   . simp only [↓aK w,↓WS,↓WC,WI,↓reduceIte]
     rfl
 | .rule L A w ks,n,row,h,ho,hr,hl=>by
   simp only [ht] at h hl;obtain ⟨n,rfl⟩:∃ k,n = k+2:=⟨n - 2,by lia⟩;have hlo:=Go.lows hr;have w1:=CI hm (n) (by lia) row L A w (eTs ks) hlo (by lia) (fun p hp=>Go.okN hx (hr p hp)) ho.1.2.1;have w0:=CQ (n - 1) (by lia) (.rule L A w ks) rfl ho hx;rw [show n - 1+1 = n by lia] at w0;have w2:=ye n (by lia) row _ _ w0 (vK _) (fun b hb=>yW ho hb) hlo (by lia);have w3:=CN n (.rule L A w ks) ho (by simp only [ht];lia);apply aX;refine aL kE rfl rfl rfl ?_;simp only [kE,init,SI,Nat.reduceAdd,Nat.reduceSub];refine bD.mpr (tH ?_ (hJ.mpr (jk.mpr ?_)))
   . simp only [↓xM,↓WS,↓WC,WI,↓reduceIte];exact eqC ho (by simp only [ht];lia) ⟨rfl,trivial⟩
   unfold lj
   cases hst:stB row L A w with
   | false =>
     rw [hst] at w1;refine bD.mpr (dM ?_ ?_)
     . simp only [eT,↓WS,↓WC,WI,↓reduceIte];rw [if_pos (by decide +kernel)];exact (aK w1).mpr (by simp only [↓WS,↓WC,WI,↓reduceIte];simp)
     . simp only [↓WS,↓WC,WI,↓reduceIte]
       rfl
   | true =>
     rw [hst] at w1;refine bD.mpr (tH ?_ (hJ.mpr (jk.mpr ?_)))
     . simp only [eT,↓WS,↓WC,WI,↓reduceIte];rw [if_pos (by decide +kernel)];exact (aK w1).mpr (by simp only [↓WS,↓WC,WI,↓reduceIte];simp)
     rw [eU];simp only [↓aK w2,↓aK w3,ao,↓WS,↓WC,WI,↓reduceIte]
     have hw:w∈xs\/bnd A = false:=by
      cases hb:bnd A with
      | false=>exact .inr rfl
      | true =>
        refine .inl (ho.2.1.resolve_left fun e=>?_);unfold stB at hst;rw [hb,e] at hst;simp at hst
     have bg:=fun b hb=>ED (L:=L) (w:=w) hw ho.1 b hb;have ad:adds (.rule L A w ks) = brs L w A:=rfl;have kd:kT (.rule L A w ks) = eTs ks:=rfl;rw [ad,kd,tU];generalize brs L w A = bs at bg ⊢;have neI:∀ {a b:Int} {Q:Bool->Prop},Q (!(a == b))->jj .ne (.int a) (.int b) Q:=fun k=>⟨_,rfl,k⟩
     cases bs with
     | nil=>exact hZ rfl
     | cons b1 bs =>
       refine iN (neI ?_)
       cases hc:((b1::bs).length == tln ks) with
       | false =>
         have hi:(((b1::bs).length:Int) == (tln ks:Int)) = false:=by
          simp only [beq_eq_false_iff_ne,ne_eq] at hc ⊢
          lia
         rw [hi]
         exact hZ rfl
       | true =>
         have hi:(((b1::bs).length:Int) == (tln ks:Int)) = true:=by rw [eq_of_beq hc];simp
         rw [hi];refine iN ?_;simp only [↓sf,↓WS,↓WC,WI,↓reduceIte];refine ⟨_,_,_,_,rfl,rfl,rfl,?_⟩
         exact LU ks (n+1) row (b1::bs) _ _ _ _ _ _ (by lia) ho.2.2 hr (by lia) (eq_of_beq hc) bg
 | .cut A a b,n,row,h,ho,hr,hl=>by
   simp only [ht] at h hl;obtain ⟨n,rfl⟩:∃ k,n = k+2:=⟨n - 2,by lia⟩;have hlo:=Go.lows hr;have w0:=CQ (n - 1) (by lia) (.cut A a b) rfl ho hx;rw [show n - 1+1 = n by lia] at w0;have w2:=ye n (by lia) row _ _ w0 (vK _) (fun b hb=>yW ho hb) hlo (by lia);have w3:=CN n (.cut A a b) ho (by simp only [ht];lia);have g1:∀ c:Bool,∀ p∈[((c,A):It)],Go xs p.2:=fun c p hp=>by rw [bu.mp hp];exact ho.1
   have l1:=wW (row++[((false,A):It)]);have l2:=wW (row++[((true,A):It)]);rw [aj,aV] at l1 l2;have e1:=sL a (n+1) (mo (row++[(false,A)])) (by lia) ho.2.1 (DG hr (g1 false)) (by lia);have e2:=sL b (n+1) (mo (row++[(true,A)])) (by lia) ho.2.2 (DG hr (g1 true)) (by lia);apply aX;refine aL kE rfl rfl rfl ?_;simp only [kE,init,SI,Nat.reduceAdd,Nat.reduceSub];refine bD.mpr (tH ?_ (hJ.mpr (jk.mpr ?_)))
   . simp only [↓xM,↓WS,↓WC,WI,↓reduceIte];exact eqC ho (by simp only [ht];lia) ⟨rfl,trivial⟩
   refine bD.mpr (tH ⟨false,_,by kernel_rfl,rfl,rfl⟩ (hJ.mpr (jk.mpr ?_)));simp only [↓aK w2,↓aK w3,ao,↓WS,↓WC,WI,↓reduceIte];have neI:∀ {a b:Int} {Q:Bool->Prop},Q (!(a == b))->jj .ne (.int a) (.int b) Q:=fun k=>⟨_,rfl,k⟩;refine iN (neI (iN ?_));simp only [↓sf,↓WS,↓WC,WI,↓reduceIte];refine ⟨_,_,_,_,rfl,rfl,rfl,?_⟩;show lg _ _ _ [D.tup [D.tup ((mo (row++[(false,A)])).map itD),eT a],D.tup [D.tup ((mo (row++[(true,A)])).map itD),eT b]] _ _;simp only [↓fi,↓fZ,↓aK e1,↓aK e2,↓WS,↓WC,WI,↓reduceIte];have fe:lj row (.cut A a b) = (lj (mo (row++[(false,A)])) a && lj (mo (row++[(true,A)])) b):=by rw [lj]
   rw [fe];cases h1:lj (mo (row++[(false,A)])) a<;>cases h2:lj (mo (row++[(true,A)])) b<;>simp
theorem LU:∀ (ks:Ts) (n:Nat) (row:List It) (bs:List (List It)) (a0 a1 a2 a3 s4 s5:Sl),hts ks+40<=n->wN xs ks->(∀ p∈row,Go xs p.2)->row.length+2 * hts ks+2<=60->bs.length = tln ks->(∀ b∈bs,b.length<=2/\∀ p∈b,Go xs p.2) ->
 lg ⟨PP.run Gs gls n,gls,hfs Gs⟩ (.tp [4,5]) (.cons (.ifs (.not (.call 18 (.cons (.var 4) (.cons (.var 5) .nil)))) (.cons (.ret (.bl false)) .nil) .nil) .nil) (jf (bs.map fun b=>.tup ((mo (row++b)).map itD)) (eTs ks)) [a0,a1,a2,a3,s4,s5] (nW ⟨PP.run Gs gls n,gls,hfs Gs⟩ (.cons (.ret (.bl true)) .nil) (retS fun x=>x = .bl (mD row bs ks)))
 | .nil,n,row,bs,a0,a1,a2,a3,s4,s5,h,ho,hr,hl,hb,hg=>by
   obtain rfl:bs = []:=dh.mp hb;show lg _ _ _ [] _ _;simp only [↓fZ,↓WS,↓WC,WI,↓reduceIte];unfold mD
   rfl
 | .cons t r,n,row,[],a0,a1,a2,a3,s4,s5,h,ho,hr,hl,hb,hg=>by cases hb
 | .cons t r,n,row,b::bs,a0,a1,a2,a3,s4,s5,h,ho,hr,hl,hb,hg=>by
   simp only [hts] at h hl;obtain ⟨g1,g2⟩:=hg b ay;have l1:=wW (row++b);rw [aj] at l1;have e1:=sL t n (mo (row++b)) (by lia) ho.1 (DG hr g2) (by lia);have ih:=LU r n row bs a0 a1 a2 a3 (.val (.tup ((mo (row++b)).map itD))) (.val (eT t)) (by lia) ho.2 hr (by lia) (lZ hb) fun c hc=>hg c (au _ hc);show lg _ _ _ (D.tup [D.tup ((mo (row++b)).map itD),eT t]::jf (bs.map fun b=>.tup ((mo (row++b)).map itD)) (eTs r)) _ _;simp only [↓fi,↓me,↓aK e1,SI,↓WS,↓WC,WI,↓reduceIte];unfold mD
   cases h1:lj (mo (row++b)) t with
   | false=>exact hZ rfl
   | true=>exact iN (by simpa using ih)
end
end
mutual
noncomputable def lfT:List It->T->Bool
 | l,.close=>cl l
 | l,.rule L A w ks=>has l (L,A) && ((!(brs L w A).isEmpty) && ((brs L w A).length == tln ks) && ((if bnd A = true then oB l L A w else w == "") && oE l (brs L w A) ks))
 | l,.cut A a b=>lfT (l++[(false,A)]) a && lfT (l++[(true,A)]) b
noncomputable def oE:List It->List (List It)->Ts->Bool
 | l,b::bs,.cons t r=>lfT (l++b) t && oE l bs r
 | _,_,_=>true
end
theorem IU (row:List It) (L:Bool) (A:F) (nm:Str):stB row L A nm = (has row (L,A) && (if bnd A = true then oB row L A nm else nm == "")):=by
 unfold stB oB
 cases hb:bnd A with
 | true=>cases h:(nm == "")<;>simp
 | false =>
   have ho:own L A = false:=by
    cases A with
    | un u a=>cases u<;>first | rfl | cases hb
    | _=>rfl
   rw [ho];cases h:(nm == "")<;>simp
theorem vG {a b:Bool} (h:a = true↔b = true):a = b:=by cases a<;>cases b<;>simp_all
theorem sW {row l b:List It} (h:∀ p,p∈row↔p∈l) (p:It):p∈mo (row++b)↔p∈l++b:=by rw [DF,aP,aP,h]
mutual
theorem tL {xs:List Str}:∀ (t:T) (row l:List It),okT xs t->low l->(∀ p,p∈row↔p∈l)->lj row t = lfT l t
 | .close,row,l,_,hl,h=>by
   have lr:low row:=fun p hp=>hl p ((h p).mp hp);have:(·∈row) = (·∈l):=funext fun p=>propext (h p);unfold lj lfT
   exact vG (by rw [Ew lr,Ew hl,this])
 | .rule L A w ks,row,l,ho,hl,h=>by
   have lr:low row:=fun p hp=>hl p ((h p).mp hp);have e1:has row (L,A) = has l (L,A):=vG (by rw [jP lr,jP hl,h])
   have e2:oB row L A w = oB l L A w:=by
    have:inN row w = inN l w:=by
     unfold inN;refine decide_eq_decide.mpr ?_;rw [iF,iF];exact exists_congr fun p=>and_congr_left' (h p)
    unfold oB;rw [this]
   have e3:=vo ks row l (brs L w A) ho.2.2 hl (fun b hb=>(xo ho.1.2.1 b hb).2) h;unfold lj lfT;rw [IU,e1,e2,e3,dF];simp only [aa]
   exact ⟨fun ⟨⟨a,b⟩,c,d⟩=>⟨a,c,b,d⟩,fun ⟨a,c,b,d⟩=>⟨⟨a,b⟩,c,d⟩⟩
 | .cut A a b,row,l,ho,hl,h=>by
   have e1:=tL a (mo (row++[(false,A)])) (l++[(false,A)]) ho.2.1 (hl.app (.one ho.1.2.1)) (sW h);have e2:=tL b (mo (row++[(true,A)])) (l++[(true,A)]) ho.2.2 (hl.app (.one ho.1.2.1)) (sW h);rw [lj,lfT,e1,e2]
theorem vo {xs:List Str}:∀ (ks:Ts) (row l:List It) (bs:List (List It)),wN xs ks->low l->(∀ b∈bs,low b)->(∀ p,p∈row↔p∈l)->mD row bs ks = oE l bs ks
 | .nil,row,l,bs,_,_,_,_=>by cases bs<;>simp [mD,oE]
 | .cons t r,row,l,[],_,_,_,_=>by simp [mD,oE]
 | .cons t r,row,l,b::bs,ho,hl,hb,h=>by
   have e1:=tL t (mo (row++b)) (l++b) ho.1 (hl.app (hb b ay)) (sW h);have e2:=vo r row l bs ho.2 hl (fun c hc=>hb c (au _ hc)) h;rw [mD,oE,e1,e2]
end
theorem El:∀ l:List (List It),(∀ b∈l,low b)->cN (l.map fun b=>D.lst (b.map itD))<=65
 | [],_=>by show cN ([]:List D)<=65;unfold cN;lia
 | b::l,h=>by
   rw [aU];unfold cN;have e:dep (D.lst (b.map itD)) = cN (b.map itD)+1:=by unfold dep;rfl
   have:=mF (h b ay);have:=El l fun c hc=>h c (au _ hc)
   lia
theorem eq_nil {l:List (List It)} (h:∀ b∈l,low b) {Q:Bool->Prop} (k:Q l.isEmpty):jj .eq (brD l) (.lst []) Q:=by
 refine ⟨_,?_,k⟩;have e2:dep (.lst []) = 1:=by decide +kernel
 have e1:dep (brD l) = cN (l.map fun b=>D.lst (b.map itD))+1:=by unfold brD dep;rfl
 have:=El l h;show (if gH (brD l) (.lst []) = true then some (eqD (brD l) (.lst [])) else _) = _;rw [if_pos (by unfold gH;rw [show kin (brD l) (.lst []) = true from rfl,e1,e2,eU,aa,decide_eq_true_eq,decide_eq_true_eq];lia)];cases l<;>(unfold brD;simp only [iL,aU];unfold eqD gM;rfl)
theorem KR (A:F):((!(hd A == "all")) && !(hd A == "some")) = !bnd A:=by
 cases A with
 | un u a=>cases u<;>kernel_rfl
 | bi b x y=>cases b<;>kernel_rfl
 | _=>kernel_rfl
section
variable {xs:List Str} (hx:∀ t∈xs,nm t)
include hx
mutual
theorem oR:∀ (t:T) (n:Nat) (l:List It),ht t+40<=n->okT xs t->(∀ p∈l,Go xs p.2)->l.length+2 * ht t<=60->PP.run Gs gls n 29 [.lst (l.map itD),eT t] = some (.bl (lfT l t))
 | .close,n,l,h,ho,hr,hl=>by
   obtain ⟨n,rfl⟩:∃ k,n = k+2:=⟨n - 2,by lia⟩;have w:=Ab n l (Go.lows hr) (by lia);apply aX;refine aL dX rfl rfl rfl ?_;simp only [dX,init,SI,Nat.reduceAdd,Nat.reduceSub];refine bD.mpr (dM ⟨true,_,by kernel_rfl,rfl,rfl⟩ ?_);simp only [↓aK w,↓WS,↓WC,WI,↓reduceIte]
   rfl
 | .cut A a b,n,l,h,ho,hr,hl=>by
   simp only [ht] at h hl;obtain ⟨n,rfl⟩:∃ k,n = k+2:=⟨n - 2,by lia⟩;have g1:∀ c:Bool,∀ p∈l++[((c,A):It)],Go xs p.2:=fun c p hp=>(aP.mp hp).elim (hr p) fun z=>by rw [bu.mp z];exact ho.1
   have ll:∀ c:Bool,(l++[((c,A):It)]).length = l.length+1:=fun c=>by simp
   have e1:=oR a (n+1) (l++[(false,A)]) (by lia) ho.2.1 (g1 false) (by rw [ll];lia);have e2:=oR b (n+1) (l++[(true,A)]) (by lia) ho.2.2 (g1 true) (by rw [ll];lia);rw [aY] at e1 e2;have ss:=s64;apply aX;refine aL dX rfl rfl rfl ?_;simp only [dX,init,SI,Nat.reduceAdd,Nat.reduceSub];refine bB 1 [.val (.lst (l.map itD)),.val (eT (.cut A a b)),.no,.no,.no,.no,.no,.no] (by kernel_rfl) (bD.mpr (dM ⟨true,_,by kernel_rfl,rfl,rfl⟩ ?_));have i2:∀ {Q:D->Prop},Q (.tup [eT a,eT b])->wIx (eT (.cut A a b)) (.int 2) Q:=fun k=>⟨_,by kernel_rfl,k⟩;have i1:∀ {Q:D->Prop},Q (enc A)->wIx (eT (.cut A a b)) (.int 1) Q:=fun k=>⟨_,by kernel_rfl,k⟩;simp only [ak,ax,ao,↓WS,↓WC,WI,↓reduceIte];have fe:lfT l (.cut A a b) = (lfT (l++[(false,A)]) a && lfT (l++[(true,A)]) b):=by rw [lfT]
   rw [fe];refine i1 ⟨by decide,by decide,by lia,i2 (iw.mpr ((aK e1).mpr (vW.mpr ?_)))⟩
   cases h1:lfT (l++[(false,A)]) a with
   | false=>exact hZ rfl
   | true=>exact iN (i1 ⟨by decide,by decide,by lia,i2 (ux.mpr ((aK e2).mpr (by rw [eU])))⟩)
 | .rule L A w ks,n,l,h,ho,hr,hl=>by
   simp only [ht] at h hl;obtain ⟨n,rfl⟩:∃ k,n = k+2:=⟨n - 2,by lia⟩;have lo:=Go.lows hr;have w1:=CL n L w A (by have:=ho.1.1;lia) (by have:=ho.1.1;lia) (nC (by have:=ho.1.2.2.1;lia)) (Go.pd hx ho.1);have bo:=fun b hb=>(xo (L:=L) (nm:=w) ho.1.2.1 b hb).2;have wo:=Jm n (by lia) l L A w;have ss:=s64;have i4:∀ {Q:D->Prop},Q (.tup (eTs ks))->wIx (eT (.rule L A w ks)) (.int 4) Q:=fun k=>⟨_,by kernel_rfl,k⟩
   have hin:qo .notin (itD (L,A)) (.lst (l.map itD)) = some (!has l (L,A)):=by
    show (inD (itD (L,A)) (.lst (l.map itD))).map (!·) = _;unfold inD;dsimp only;rw [if_pos (vk lo (q:=(L,A)) ho.1.2.1)];rfl
   have bg:=fun (hw:w∈xs\/bnd A = false) b hb=>ED (L:=L) (w:=w) hw ho.1 b hb
   have lp:∀ EA:D,(w∈xs\/bnd A = false)->(brs L w A).length = tln ks->wS ⟨PP.run Gs gls (n+1),gls,hfs Gs⟩ (.forZ (.tp [6,7]) (.cons (.var 5) (.cons (.ix (.var 1) (.int 4)) .nil)) (.cons (.ifs (.not (.call 29 (.cons (.bin .add (.var 0) (.var 6)) (.cons (.var 7) .nil)))) (.cons (.ret (.bl false)) .nil) .nil) .nil)) [.val (.lst (l.map itD)),.val (eT (.rule L A w ks)),.val (.str (sd L)),.val EA,.val (.str w),.val (brD (brs L w A)),.no,.no] (nW ⟨PP.run Gs gls (n+1),gls,hfs Gs⟩ (.cons (.ret (.bl true)) .nil) (retS fun x=>x = .bl (oE l (brs L w A) ks))):=fun EA hw hc=>by
    simp only [↓sf,↓WS,↓WC,WI,↓reduceIte];exact i4 ⟨_,_,_,_,rfl,rfl,rfl,HH ks (n+1) l (brs L w A) _ _ _ _ _ _ _ (by lia) ho.2.2 hr (by lia) hc (bg hw)⟩
   apply aX;refine aL dX rfl rfl rfl ?_;simp only [dX,init,SI,Nat.reduceAdd,Nat.reduceSub];refine bB 3 [.val (.lst (l.map itD)),.val (eT (.rule L A w ks)),.val (.str (sd L)),.val (enc A),.val (.str w),.no,.no,.no] (by kernel_rfl) ?_;unfold lfT;simp only [cM,↓aK w1,ak,ax,↓WS,↓WC,WI,↓reduceIte];refine ⟨by decide,_,hin,?_⟩
   cases hh:has l (L,A) with
   | false=>exact hZ rfl
   | true =>
     refine iN ⟨by decide,eq_nil bo ?_⟩
     cases he:(brs L w A).isEmpty with
     | true=>exact hZ rfl
     | false =>
       refine iN ?_
       have ne:∀ (Q:Bool->Prop),Q (!((brs L w A).length == tln ks))->jj .ne (.int (((brs L w A).map fun b=>D.lst (b.map itD)).length:Nat)) (.int ((eTs ks).length:Nat)) Q:=fun Q k=>⟨_,rfl,by
        rw [ao,tU]
        have:(((brs L w A).length:Int) == (tln ks:Int)) = ((brs L w A).length == tln ks):=by
         cases hq:((brs L w A).length == tln ks) with
         | true=>rw [eq_of_beq hq];simp
         | false =>
           simp only [beq_eq_false_iff_ne,ne_eq] at hq ⊢
           lia
        show Q (!(((brs L w A).length:Int) == (tln ks:Int)));rw [this];exact k⟩
       refine qT.mpr (i4 (qS.mpr (ne _ ?_)))
       cases hc:((brs L w A).length == tln ks) with
       | false=>exact hZ rfl
       | true =>
         have hc:=eq_of_beq hc;refine iN ?_;have bh:=KR A;rw [gO A] at wo ⊢
         cases hb:bnd A with
         | false =>
           rw [hb,Bool.not_false,aa] at bh;refine iw.mpr (iy.mpr (kg (fun _=>iw.mpr (iy.mpr (kg (fun _=>?_) fun z=>absurd bh.2 z))) fun z=>absurd bh.1 z));refine iy.mpr ?_
           cases hn:(w == "") with
           | false=>exact hZ rfl
           | true=>exact iN (lp _ (.inr hb) hc)
         | true =>
           have wo:=wo hb fun p hp=>⟨(hr p hp).1,Go.pd hx (hr p hp),(hr p hp).2.2.1⟩
           have fin:fh Gs gls (n+1) 28 [.lst (l.map itD),.str (sd L),.tup (.str (hd A)::tl A),.str w] fun d=>wTv d fun b=>if (!b) = true then D.bl false = D.bl (oB l L A w && oE l (brs L w A) ks) else wS ⟨PP.run Gs gls (n+1),gls,hfs Gs⟩ (.forZ (.tp [6,7]) (.cons (.var 5) (.cons (.ix (.var 1) (.int 4)) .nil)) (.cons (.ifs (.not (.call 29 (.cons (.bin .add (.var 0) (.var 6)) (.cons (.var 7) .nil)))) (.cons (.ret (.bl false)) .nil) .nil) .nil)) [.val (.lst (l.map itD)),.val (eT (.rule L A w ks)),.val (.str (sd L)),.val (.tup (.str (hd A)::tl A)),.val (.str w),.val (brD (brs L w A)),.no,.no] (nW ⟨PP.run Gs gls (n+1),gls,hfs Gs⟩ (.cons (.ret (.bl true)) .nil) (retS fun x=>x = D.bl (oB l L A w && oE l (brs L w A) ks))):=by
            refine (aK wo).mpr (vW.mpr ?_)
            cases hob:oB l L A w with
            | false=>exact hZ rfl
            | true =>
              refine iN (lp _ (.inl (ho.2.1.resolve_left fun e=>?_)) hc);unfold oB at hob;rw [e] at hob;simp at hob
           refine iw.mpr (iy.mpr (kg (fun z1=>iw.mpr (iy.mpr (kg (fun z2=>?_) fun _=>fin))) fun _=>fin));rw [z1,z2,hb] at bh;cases bh
theorem HH:∀ (ks:Ts) (n:Nat) (l:List It) (bs:List (List It)) (a1 a2 a3 a4 a5 s6 s7:Sl),hts ks+40<=n->wN xs ks->(∀ p∈l,Go xs p.2)->l.length+2 * hts ks+2<=60->bs.length = tln ks->(∀ b∈bs,b.length<=2/\∀ p∈b,Go xs p.2) ->
 lg ⟨PP.run Gs gls n,gls,hfs Gs⟩ (.tp [6,7]) (.cons (.ifs (.not (.call 29 (.cons (.bin .add (.var 0) (.var 6)) (.cons (.var 7) .nil)))) (.cons (.ret (.bl false)) .nil) .nil) .nil) (jf (bs.map fun b=>.lst (b.map itD)) (eTs ks)) [.val (.lst (l.map itD)),a1,a2,a3,a4,a5,s6,s7] (nW ⟨PP.run Gs gls n,gls,hfs Gs⟩ (.cons (.ret (.bl true)) .nil) (retS fun x=>x = .bl (oE l bs ks)))
 | .nil,n,l,bs,a1,a2,a3,a4,a5,s6,s7,h,ho,hr,hl,hb,hg=>by
   obtain rfl:bs = []:=dh.mp hb;show lg _ _ _ [] _ _;simp only [↓fZ,↓WS,↓WC,WI,↓reduceIte];unfold oE
   rfl
 | .cons t r,n,l,[],a1,a2,a3,a4,a5,s6,s7,h,ho,hr,hl,hb,hg=>by cases hb
 | .cons t r,n,l,b::bs,a1,a2,a3,a4,a5,s6,s7,h,ho,hr,hl,hb,hg=>by
   simp only [hts] at h hl;obtain ⟨g1,g2⟩:=hg b ay;have e1:=oR t n (l++b) (by lia) ho.1 (fun p hp=>(aP.mp hp).elim (hr p) (g2 p)) (by rw [aj];lia);rw [aY] at e1;have ih:=HH r n l bs a1 a2 a3 a4 a5 (.val (.lst (b.map itD))) (.val (eT t)) (by lia) ho.2 hr (by lia) (lZ hb) fun c hc=>hg c (au _ hc);have ss:=s64;show lg _ _ _ (D.tup [D.lst (b.map itD),eT t]::jf (bs.map fun b=>.lst (b.map itD)) (eTs r)) _ _;simp only [↓fi,↓me,ao,↓aK e1,SI,↓WS,↓WC,WI,↓reduceIte];refine ⟨by lia,?_⟩;unfold oE
   cases h1:lfT (l++b) t with
   | false=>exact hZ rfl
   | true=>exact iN (by simpa using ih)
end
end
theorem se {ds:List D} {lo hi:Option Int} {Q:D->Prop}:wSl (.lst ds) lo hi Q↔Q (.lst (cutD ds lo hi)):=by simp [wSl,slD]
theorem tX {ds:List D} {lo hi:Option Int} {x:D} (h:x∈cutD ds lo hi):x∈ds:=by
 unfold cutD at h;exact ze (zd h)
theorem sY {l:List It}:∀ {xs:List D},(∀ x∈xs,x∈l.map itD)->∃ l':List It,xs = l'.map itD/\∀ p∈l',p∈l
 | [],_=>⟨[],rfl,fun _ h=>by cases h⟩
 | x::xs,h=>by
   obtain ⟨p,hp,rfl⟩:=bx.mp (h x ay);obtain ⟨l',rfl,h'⟩:=sY (xs:=xs) fun y hy=>h y (au _ hy)
   exact ⟨p::l',rfl,fun q hq=>by
    rcases aC.mp hq with rfl | hq
    . exact hp
    . exact h' q hq⟩
theorem Ji (n:Nat) (l:List It) (h:low l) (hl:l.length < 64):fh Gs gls (n+1) 19 [.lst (l.map itD)] fun d=>∃ row:List It,d = .tup (row.map itD)/\(∀ p,p∈row↔p∈l)/\row.length<=l.length:=by
 have ss:=s64;refine aL iY rfl rfl rfl ?_;simp only [iY,init,SI,Nat.reduceAdd,Nat.reduceSub];simp only [↓WS,↓WC,WI,↓reduceIte];refine ⟨by decide,mj h hl,?_⟩;rw [BY];refine gb (g:=itD) (fun rest δ=>∃ (acc:List It) (s:Sl),δ = [.val (.lst (l.map itD)),.own (acc.map itD),s]/\low acc/\low rest/\(∀ p,(p∈acc\/p∈rest)↔p∈l)/\acc.length+rest.length<=l.length) ?_ ?_ _ _ ⟨[],_,rfl,(fun p hp=>by cases hp),(fun p hp=>h p ((iA l).mem_iff.mp hp)),fun p=>by simp [(iA l).mem_iff],by rw [ax,(iA l).length_eq];lia⟩
 . rintro x rest δ ⟨acc,s,rfl,ha,hr,e,hlen⟩;rw [ak] at hlen;have hx:=hr x ay;simp only [↓se,↓WS,↓WC,WI,↓reduceIte];obtain ⟨c,ec,hc⟩:=sY (l:=acc) (xs:=cutD (acc.map itD) (some (-1)) none) fun y hy=>tX hy;have lc:low c:=fun p hp=>ha p (hc p hp);rw [ec]
   have hin:qo .notin (itD x) (.lst (c.map itD)) = some (!has c x):=by
    show (inD (itD x) (.lst (c.map itD))).map (!·) = _;unfold inD;dsimp only;rw [if_pos (vk lc hx)];rfl
   refine ⟨_,hin,?_⟩
   cases hh:has c x with
   | false=>exact hZ ⟨by rw [ao];lia,acc++[x],_,by rw [aY];rfl,ha.app (.one hx),hr.tail,fun p=>by rw [<- e p,aP,bu,aC,or_assoc],by rw [aj,aV];lia⟩
   | true =>
     have hxa:=hc x ((jP lc).mp hh);refine iN ⟨acc,_,rfl,ha,hr.tail,fun p=>?_,by lia⟩;rw [<- e p,aC];exact ⟨fun z=>z.imp id .inr,fun z=>z.elim .inl fun z=>z.elim (fun w=>.inl (w▸hxa)) .inr⟩
 . rintro δ ⟨acc,s,rfl,_,_,e,hlen⟩;simp only [↓WS,↓WC,WI,↓reduceIte];exact ⟨acc,rfl,fun p=>by have:=e p;simpa using this,by simpa using hlen⟩
theorem wH {xs:List Str} (hx:∀ t∈xs,nm t) (hm:xs.length<=10) (n:Nat) (l:List It) (t:T) (hn:ht t+40<=n) (ho:okT xs t) (hr:∀ p∈l,Go xs p.2) (hl:l.length+2 * ht t<=60):PP.run Gs gls (n+1) 42 [.lst (l.map itD),eT t] = some (.bl true):=by
 have lo:=Go.lows hr;obtain ⟨n,rfl⟩:∃ k,n = k+1:=⟨n - 1,by lia⟩;obtain ⟨_,w1,row,rfl,h1,h2⟩:=Ji n l lo (by lia);have w2:=sL hx hm t (n+1) row hn ho (fun p hp=>hr p ((h1 p).mp hp)) (by lia);have w3:=oR hx t (n+1) l hn ho hr hl;rw [tL t row l ho lo h1] at w2;apply aX;refine aL iV rfl rfl rfl ?_;simp only [iV,init,SI,Nat.reduceAdd,Nat.reduceSub];simp only [↓aK w1,↓aK w2,↓aK w3,↓WS,↓WC,WI,↓reduceIte];exact ⟨.bl true,rfl,true,rfl,hZ ⟨true,by cases lfT l t<;>rfl,rfl⟩⟩
theorem pR (n:Nat) (ns:List Int) (k:Int) (h0:0<=k) (h1:k<=1000):fh Gs gls (n+1) 20 [.lst (ns.map .int),.int k] fun d=>∃ c:Int,d = .int c:=by
 refine aL jb rfl rfl rfl ?_;simp only [jb,init,SI,Nat.reduceAdd,Nat.reduceSub];simp only [↓WS,↓WC,WI,↓reduceIte];have hl:(ns.map D.int).length = ns.length:=ao _;rw [hl];split
 . rename_i h;obtain ⟨d,hm,e⟩:=mN (ds:=ns.map D.int) h0 (by rw [hl];exact h);obtain ⟨c,_,rfl⟩:=bx.mp hm;exact ⟨_,e,c,rfl⟩
 . refine ⟨mul_r (by decide) (by decide),?_⟩;split
   . rename_i h;obtain ⟨d,hm,e⟩:=mN (ds:=ns.map D.int) (j:=k * 7 % (ns.length:Int)) (cg _ (by lia)) (by rw [hl];exact bI _ h);obtain ⟨c,_,rfl⟩:=bx.mp hm;refine ⟨mul_r (by decide) (by decide),h,_,e,?_⟩;simp only [↓WS,↓WC,WI,↓reduceIte];have a1:=cg (c * 48271) (show (2147483647:Int)≠0 by decide);have a2:=bI (c * 48271) (show (0:Int) < 2147483647 by decide);exact ⟨mul_r (by decide) (by decide),by decide,mul_r (by decide) (by decide),mul_r (by lia) (by lia),by decide,_,rfl⟩
   . exact ⟨mul_r (by lia) (by lia),by decide,_,rfl⟩
theorem sI (x:Str) (n:Nat):(wD x n).length = n * x.length:=by
 show ((aN n x.cps.toList).flatten.toArray).size = n * x.cps.size;simp
theorem Hq (x y:Str):(x++y).length = x.length+y.length:=by
 show (x.cps++y.cps).size = _;rw [Array.size_append];rfl
theorem qd {a b:Str} (h:nm a):nm (a++b):=by
 obtain ⟨c,r,e,h1,h2⟩:=h;refine ⟨c,r++b.cps.toList,?_,h1,h2⟩;show (a.cps++b.cps).toList = _;rw [zk,e];rfl
theorem Kb {f a:Str} (hf:nm f) (ha:nm a):∀ k:Nat,nm (wD f k++a)
 | 0=>by
   obtain ⟨c,r,e,h⟩:=ha;refine ⟨c,r,?_,h⟩;show ((aN 0 f.cps.toList).flatten.toArray++a.cps).toList = _
   simp [e]
 | k+1=>by
   refine qd ?_;obtain ⟨c,r,e,h⟩:=hf;refine ⟨c,r++(aN k f.cps.toList).flatten,?_,h⟩;show ((aN (k+1) f.cps.toList).flatten.toArray).toList = _;rw [AQ,List.flatten_cons,e];rfl
theorem wJ (n:Nat) (c:Int) (f:Str) (hf:f.length = 1) (hm:nm f) (k:Int) (h0:0<=k) (h1:k<=2):fh Gs gls (n+1) 21 [.int c,.str f,.int k] fun d=>∃ w:Str,d = .str w/\nm w:=by
 refine aL iW rfl rfl rfl ?_;simp only [iW,init,SI,Nat.reduceAdd,Nat.reduceSub];have a1:=cg c (show (8:Int)≠0 by decide);have a2:=bI c (show (0:Int) < 8 by decide);have b1:=cg (c / 8) (show 1+c % 8≠0 by lia);have b2:=bI (c / 8) (show 0 < 1+c % 8 by lia);simp only [↓WS,↓WC,WI,↓reduceIte];obtain ⟨x,hx,ex⟩:=mN (ds:=(("bdghjk":Str).cps.toList)) (j:=k) h0 (by show k < 6;lia);have hx:=(show ∀ u∈("bdghjk":Str).cps.toList,97<=u/\u<=122 by decide +kernel) x hx;have ss:=s64;refine ⟨by decide,by decide,by lia,⟨by lia,by lia,by lia⟩,by decide,x,ex,?_,⟨by lia,by lia,by lia⟩,?_,_,rfl,?_⟩
 . rw [sI,hf];show _+1<=_;lia
 . rw [Hq,sI,sI,hf];show _+1+_<=_;lia
 . exact qd (Kb hm ⟨x,[],rfl,hx⟩ _)
theorem CM (n:Nat) (c f:Int) (xs:List Str) (h0:0 < xs.length) (h1:xs.length < 100):fh Gs gls (n+2) 22 [.int c,.int f,.lst (xs.map .str)] fun d=>∃ (w:Str) (ts:List Str),d = enc (.word w ts)/\ts.length<=3/\∀ t∈ts,t∈xs:=by
 refine aL ja rfl rfl rfl ?_;simp only [ja,init,SI,Nat.reduceAdd,Nat.reduceSub];have a1:=cg (c / 5) (show (4:Int)≠0 by decide);have a2:=bI (c / 5) (show (0:Int) < 4 by decide);simp only [ak,ax,↓WS,↓WC,WI,↓reduceIte];refine ⟨by decide,by decide,by decide,⟨by lia,by lia⟩,?_⟩;refine kq (fun zs δ=>∃ (ts:List Str) (s:Sl),δ = [.val (.int c),.val (.int f),.val (.lst (xs.map .str)),.own (ts.map .str),s]/\(ts.length+zs.length<=3/\∀ t∈ts,t∈xs)/\∀ z∈zs,∃ i:Nat,i < 10/\z = .int i) ?_ ?_ _ _ ⟨[],_,rfl,⟨by rw [sG];simp only [ax];lia,fun _ h=>by cases h⟩,fun z hz=>?_⟩
 . rintro z zs δ ⟨ts,s,rfl,⟨hl,ht⟩,hz⟩;obtain ⟨i,hi,rfl⟩:=hz z ay;rw [ak] at hl;have ss:=s64;simp only [ao,↓WS,↓WC,WI,↓reduceIte];have e1:=cg (c / (7+4 * (i:Int))) (show (xs.length:Int)≠0 by lia);have e2:=bI (c / (7+4 * (i:Int))) (show (0:Int) < (xs.length:Int) by lia);obtain ⟨d,hd,et⟩:=mN (ds:=xs.map D.str) e1 (by rw [ao];exact e2);obtain ⟨t,ht2,rfl⟩:=bx.mp hd;exact ⟨mul_r (by lia) (by lia),⟨by lia,by lia⟩,by lia,_,et,by lia,ts++[t],_,by rw [aY];rfl,⟨by rw [aj,aV];lia,fun q hq=>(aP.mp hq).elim (ht q) fun z=>by rw [bu.mp z];exact ht2⟩,fun z q=>hz z (au _ q)⟩
 . rintro δ ⟨ts,s,rfl,⟨hl,ht⟩,_⟩;simp only [ak,ax,↓WS,↓WC,WI,↓reduceIte];have e1:=cg c (show (3:Int)≠0 by decide);have e2:=bI c (show (0:Int) < 3 by decide);refine ⟨by decide,bw (wJ n f "q" (by decide +kernel) ⟨113,[],rfl,by decide,by decide⟩ (c % 3) e1 (by lia)) ?_⟩;rintro _ ⟨w,rfl,_⟩;exact ⟨by decide,w,ts,rfl,by simpa using hl,ht⟩
 . obtain ⟨i,hi,rfl⟩:=sF hz;exact ⟨i,by lia,by simp⟩
noncomputable def LP:Option Out->Option D
 | some (.rt d _)=>some d
 | _=>none
theorem cH {cx:Cl} {ss:Ss} {δ:PP.Loc} {d:D} {Q:D->Prop} (h:LP (dH cx ss δ) = some d) (q:Q d):wSs cx ss δ (retS Q):=by
 generalize e:dH cx ss δ = o at h
 match o,h with
 | some (.rt _ _),h=>cases h;exact ⟨_,e,q⟩
noncomputable def tm (xs:List Str) (d:Nat) (t:Str):Prop:=t∈xs\/∃ j:Int,0<=j/\j < d/\t = pl j
noncomputable def St (xs:List Str) (d k:Nat) (A:F):Prop:=hF A<=k+1/\sz A < 2 ^ (k+1)/\(tms A).length<=3 * 2 ^ k/\∀ t∈tms A,tm xs d t
theorem St.up {xs:List Str} {d e k j:Nat} {A:F} (h:St xs d k A) (h1:d<=e) (h2:k<=j):St xs e j A:=by
 obtain ⟨a,b,c,t⟩:=h;have p1:2 ^ (k+1)<=2 ^ (j+1):=fC (by decide) (by lia);have p2:2 ^ k<=2 ^ j:=fC (by decide) h2;refine ⟨by lia,by lia,by lia,fun q hq=>(t q hq).imp id ?_⟩;rintro ⟨j,j0,j1,e⟩;exact ⟨j,j0,by lia,e⟩
theorem St.un {xs:List Str} {d k:Nat} {A:F} (u:U) (h:St xs d k A):St xs d (k+1) (.un u A):=by
 obtain ⟨a,b,c,t⟩:=h;rw [cz] at b;refine ⟨by simp only [hF];lia,by simp only [sz,cz];have:=qz (n:=k) (show 0 < 2 by decide);lia,by rw [cz];show (tms A).length<=_;lia,t⟩
theorem St.bi {xs:List Str} {d k:Nat} {A B:F} (u:P1.B) (h:St xs d k A) (g:St xs d k B):St xs d (k+1) (.bi u A B):=by
 obtain ⟨a,b,c,t⟩:=h;obtain ⟨a',b',c',t'⟩:=g;rw [cz] at b b';refine ⟨by simp only [hF];lia,by simp only [sz,cz];lia,?_,fun q hq=>?_⟩
 . show (tms A++tms B).length<=_;rw [aj,cz];lia
 . exact (aP.mp hq).elim (t q) (t' q)
theorem St.lf {xs:List Str} {d k:Nat} {A:F} (h:A = .yes\/A = .no):St xs d k A:=by
 have:=qz (n:=k) (show 0 < 2 by decide);rcases h with rfl | rfl<;>exact ⟨by simp only [hF];lia,by simp only [sz,cz];lia,by simp [tms],fun t ht=>by cases ht⟩
noncomputable def kinds:List Str:=["word","not","and","or","if","all","some","yes","no","word"]
theorem GX (v:Int):∃ s:Str,atI (kinds.map D.str) (v % 10) = some (.str s)/\(((s == "yes") || (s == "no") || (s == "word") || (s == "not") || (s == "all") || (s == "some")) = true\/∃ b:B,s = b.s):=by
 obtain ⟨x,hx,e⟩:=mN (ds:=kinds.map D.str) (cg v (show (10:Int)≠0 by decide)) (bI v (show (0:Int) < 10 by decide));obtain ⟨s,hs,rfl⟩:=bx.mp hx;refine ⟨s,e,?_⟩;rcases (show ∀ s∈kinds,((s == "yes") || (s == "no") || (s == "word") || (s == "not") || (s == "all") || (s == "some")) = true\/s = "and"\/s = "or"\/s = "if" by decide +kernel) s hs with h | h | h | h
 . exact .inl h
 . exact .inr ⟨.and,h⟩
 . exact .inr ⟨.or,h⟩
 . exact .inr ⟨.imp,h⟩
theorem FA {P:D->D->Prop} {d:Nat} (hP:∀ x y,P x y->∃ j:Int,0<=j/\j < d/\y = .str (pl j)) {ds ys:List D} (r:Paired P ds ys):∃ ps:List Str,ys = ps.map .str/\ps.length = ds.length/\∀ p∈ps,∃ j:Int,0<=j/\j < d/\p = pl j:=by
 induction r with
 | nil=>exact ⟨[],rfl,rfl,fun _ h=>by cases h⟩
 | cons h t ih =>
   obtain ⟨j,j0,j1,rfl⟩:=hP _ _ h;obtain ⟨cs,rfl,hl,hc⟩:=ih;exact ⟨pl j::cs,rfl,by simp [hl],fun p hp=>(aC.mp hp).elim (fun e=>⟨j,j0,j1,e⟩) (hc p)⟩
theorem LQ (n d:Nat) (hd:d < 90) {a b c e f g h i:Sl} {Q:List D->PP.Loc->Prop} (q:∀ ps:List Str,ps.length = d->(∀ p∈ps,∃ j:Int,0<=j/\j < d/\p = pl j)->Q (ps.map .str) [a,b,c,e,f,g,h,i]):ly ⟨PP.run Gs gls n,gls,hfs Gs⟩ 1 (.nm 8) .no (.blt .toStr (.cons (.var 8) .nil)) (sH 0 (d:Int).toNat) [a,b,c,e,f,g,h,i] Q:=by
 refine pE (fun _ y=>∃ j:Int,0<=j/\j < d/\y = .str (pl j)) _ ?_ ?_
 . intro z hz;obtain ⟨j,hj,rfl⟩:=sF hz;have hj:j < d:=by simpa using hj
   simp only [SI,↓WS,↓WC,WI,↓reduceIte];exact ⟨trivial,kQ (by lia) (by lia),⟨0+(j:Int),by lia,by lia,rfl⟩,rfl⟩
 . intro ys r;obtain ⟨ps,rfl,hl,hp⟩:=FA (fun _ _ h=>h) r;rw [sG] at hl;exact q ps (by simpa using hl) hp
theorem kx (k n d:Nat) (c f:Int) (xs:List Str) (h0:0 < xs.length) (h1:xs.length+d+k < 90):fh Gs gls (n+k+3) 23 [.int c,.int k,.int d,.lst (xs.map .str),.int f] fun D=>∃ A,D = enc A/\St xs (d+k) k A:=by
 obtain ⟨s,es,ks⟩:=GX c;have ss:=s64;refine aL fj rfl rfl rfl ?_;simp only [fj,init,SI,Nat.reduceAdd,Nat.reduceSub];refine xH (.str s) (Ej (x:=.lst (kinds.map .str)) (y:=.int (c % 10)) (by kernel_rfl) (by kernel_rfl) es) ⟨_,rfl,?_⟩;refine bB 1 [.val (.int c),.val (.int k),.val (.int d),.val (.lst (xs.map .str)),.val (.int f),.val (.str s),.val (.int (c / 10)),.no] (by kernel_rfl) ?_;refine dZ ((s == "yes") || (s == "no")) (Ei (by kernel_rfl) (by kernel_rfl)) (fun h=>cH (d:=.tup [.str s]) (by kernel_rfl) ?_) fun hz=>?_
 . rcases AU.mp h with h | h<;>rw [eq_of_beq h]
   . exact ⟨.yes,rfl,.lf (.inl rfl)⟩
   . exact ⟨.no,rfl,.lf (.inr rfl)⟩
 obtain ⟨n1,n2⟩:=lE.mp hz;simp only [vJ,ak,ax,↓WS,↓WC,WI,↓reduceIte];refine DQ (fun _=>⟨⟨by lia,by lia⟩,LQ _ d (by lia) fun ps pl pj=>⟨?_,?_,?_⟩⟩) fun n3 n4=>?_
 . rw [ao];lia
 . rw [ao,ao];lia
 . rw [<- aY];refine bw (CM (n+k) (c / 10) f (xs++ps) (by rw [aj];lia) (by rw [aj];lia)) ?_;rintro _ ⟨w,ts,rfl,tl,tt⟩;have:=qz (n:=k) (show 0 < 2 by decide);refine ⟨_,rfl,by simp only [hF];lia,by simp only [sz,cz];lia,?_,fun t ht=>?_⟩
   . show ts.length<=_;lia
   . refine (aP.mp (tt t ht)).imp id fun z=>?_;obtain ⟨j,j0,j1,e⟩:=pj t z;exact ⟨j,j0,by lia,e⟩
 obtain ⟨k,rfl⟩:∃ i,k = i+1:=⟨k - 1,by lia⟩;rw [show ((k+1:Nat):Int) - 1 = (k:Int) by lia,show (d:Int)+1 = ((d+1:Nat):Int) by lia];have ih:=fun d c h=>kx k n d c f xs h0 h;refine kg (fun e=>?_) fun n5=>DQ (fun h=>?_) fun n6 n7=>⟨mul_r (by decide) (by decide),by decide,?_⟩
 . refine bw (ih d _ (by lia)) ?_;rintro _ ⟨A,rfl,h⟩;exact ⟨by decide,.un .neg A,rfl,(h.un .neg).up (by lia) (by lia)⟩
 . refine bw (ih (d+1) _ (by lia)) ?_;rintro _ ⟨A,rfl,hA⟩;refine ⟨by decide,?_⟩;rcases h with h | h<;>rw [eq_of_beq h]
   . exact ⟨.un .all A,rfl,(hA.un .all).up (by lia) (by lia)⟩
   . exact ⟨.un .ex A,rfl,(hA.un .ex).up (by lia) (by lia)⟩
 . refine bw (ih d _ (by lia)) ?_;rintro _ ⟨A,rfl,hA⟩;refine ⟨mul_r (by decide) (by decide),by decide,bw (ih d _ (by lia)) ?_⟩;rintro _ ⟨C,rfl,hC⟩;rcases ks with ks | ⟨b,rfl⟩
   . simp only [cw] at ks
     simp_all
   . exact ⟨by decide,.bi b A C,rfl,(hA.bi b hC).up (by lia) (by lia)⟩
termination_by k
theorem jn:∀ (A:F) (n:Nat) (nm:Str) (k:Int),hF A<=n->0<=k->k+hF A < 1000->okF A->PP.run Gs gls n 30 [enc A,.str nm,.int k] = some (enc (eS (bf nm) A k))
 | .yes,n+1,nm,k,h,h0,h1,o=>by kernel_rfl
 | .no,n+1,nm,k,h,h0,h1,o=>by kernel_rfl
 | .word w ts,n+1,nm,k,h,h0,h1,o=>by
   have o':ts.length<=1000:=o;have ss:=s64;apply aX;refine aL cq rfl rfl rfl ?_;simp only [cq,init,SI,Nat.reduceAdd,Nat.reduceSub];refine bD.mpr (dM ⟨true,_,by kernel_rfl,rfl,rfl⟩ ?_);refine bB 1 [.val (enc (.word w ts)),.val (.str nm),.val (.int k),.own [],.no] (by kernel_rfl) ?_;simp only [cM,enc,ak,ax,↓WS,↓WC,WI,↓reduceIte];refine gb (g:=D.str) (fun rest δ=>∃ (acc:List Str) (s:Sl),δ = [.val (.tup [.str "word",.str w,.tup (ts.map .str)]),.val (.str nm),.val (.int k),.own (acc.map .str),s]/\acc++rest.map (fun t=>bf nm t k) = ts.map (fun t=>bf nm t k)/\acc.length+rest.length<=1000) ?_ ?_ _ _ ⟨[],_,rfl,rfl,by simpa using o'⟩
   . rintro x rest δ ⟨acc,s,rfl,e,hl⟩;rw [ak] at hl;simp only [↓WS,↓WC,WI,↓reduceIte];rw [aU] at e;have hl2:(acc.map D.str).length < sizeLine:=by rw [ao];lia
     refine kg (fun e1=>⟨kQ h0 (by simp only [hF] at h1;lia),hl2,acc++[((toString k:String):Str)],_,by rw [aY];rfl,?_,by rw [aj,aV];lia⟩) fun e1=>⟨hl2,acc++[x],_,by rw [aY];rfl,?_,by rw [aj,aV];lia⟩
     . rw [<- e,show bf nm x k = ((toString k:String):Str) from if_pos e1,dG];rfl
     . rw [<- e,show bf nm x k = x from if_neg e1,dG];rfl
   . rintro δ ⟨acc,s,rfl,e,_⟩;simp only [ak,ax,↓WS,↓WC,WI,↓reduceIte];refine ⟨by decide,?_⟩;rw [iL,bS] at e;rw [e]
     rfl
 | .un .neg a,n+1,nm,k,h,h0,h1,o=>by
   have ih:=jn a n nm k (by simp only [hF] at h;lia) h0 (by simp only [hF] at h1;lia) o;apply aX;refine aL cq rfl rfl rfl ?_;simp only [cq,init,SI,Nat.reduceAdd,Nat.reduceSub];refine bB 2 [.val (enc (.un .neg a)),.val (.str nm),.val (.int k),.no,.no] (by kernel_rfl) ?_;simp only [cM,enc,↓mX,↓eY,↓fQ,SI,lU,Nat.reduceAdd,↓WS,↓WC,WI,↓reduceIte]
   exact ⟨by decide,(aK ih).mpr ⟨by decide,by decide,by rw [show eS (bf nm) (.un .neg a) k = .un .neg (eS (bf nm) a k) by simp [eS,up]];rfl⟩⟩
 | .un .all a,n+1,nm,k,h,h0,h1,o=>by
   have ih:=jn a n nm (k+1) (by simp only [hF] at h;lia) (by lia) (by simp only [hF] at h1;lia) o;apply aX;refine aL cq rfl rfl rfl ?_;simp only [cq,init,SI,Nat.reduceAdd,Nat.reduceSub];refine bB 1 [.val (enc (.un .all a)),.val (.str nm),.val (.int k),.no,.no] (by kernel_rfl) (bD.mpr (dM ?_ ?_))
   . exact ⟨true,_,by kernel_rfl,rfl,rfl⟩
   simp only [enc,ak,ax,↓WS,↓WC,WI,↓reduceIte]
   exact (aK ih).mpr ⟨by decide,rfl⟩
 | .un .ex a,n+1,nm,k,h,h0,h1,o=>by
   have ih:=jn a n nm (k+1) (by simp only [hF] at h;lia) (by lia) (by simp only [hF] at h1;lia) o;apply aX;refine aL cq rfl rfl rfl ?_;simp only [cq,init,SI,Nat.reduceAdd,Nat.reduceSub];refine bB 1 [.val (enc (.un .ex a)),.val (.str nm),.val (.int k),.no,.no] (by kernel_rfl) (bD.mpr (dM ?_ ?_))
   . exact ⟨true,_,by kernel_rfl,rfl,rfl⟩
   simp only [enc,ak,ax,↓WS,↓WC,WI,↓reduceIte]
   exact (aK ih).mpr ⟨by decide,rfl⟩
 | .bi b x y,n+1,nm,k,h,h0,h1,o=>by
   have ih1:=jn x n nm k (by simp only [hF] at h;lia) h0 (by simp only [hF] at h1;lia) o.1;have ih2:=jn y n nm k (by simp only [hF] at h;lia) h0 (by simp only [hF] at h1;lia) o.2;apply aX;refine aL cq rfl rfl rfl ?_;simp only [cq,init,SI,Nat.reduceAdd,Nat.reduceSub];refine bB 2 [.val (enc (.bi b x y)),.val (.str nm),.val (.int k),.no,.no] (by cases b<;>kernel_rfl) ?_;simp only [cM,enc,↓mX,↓eY,↓fQ,SI,lU,Nat.reduceAdd,↓WS,↓WC,WI,↓reduceIte]
   exact ⟨by decide,(aK ih1).mpr ((aK ih2).mpr ⟨by decide,by decide,rfl⟩)⟩
 | A,0,nm,k,h,h0,h1,o=>by cases A<;>simp only [hF] at h<;>lia
theorem yd (n:Nat) (L:Bool) (a:F) (t:T):PP.run Gs gls (n+1) 31 [.str (sd L),enc (.un .neg a),eT t] = some (eT (.rule L (.un .neg a) "" (.cons (.rule (!L) a "" (.cons t .nil)) .nil))):=by cases L<;>kernel_rfl
noncomputable def Gk (xs:List Str) (k:Nat) (A:F):Prop:=hF A<=2 * k+3/\sz A+2<=5 * 2 ^ k/\(tms A).length<=3 * 2 ^ k/\∀ t∈tms A,t∈xs\/∃ j:Int,0<=j/\j < 10/\t = pl j
theorem Gk.go {xs:List Str} {k:Nat} (hk:k<=3) {A:F} (h:Gk xs k A):Go xs A:=by
 obtain ⟨a,b,c,d⟩:=h;have:2 ^ k<=8:=fC (by decide) hk;exact ⟨by lia,by lia,by lia,d⟩
mutual
noncomputable def slim:T->Prop
 | .close=>True
 | .rule _ A _ ks=>(hF A<=9/\sz A<=59/\(tln ks = 1\/tln ks = 2))/\HG ks
 | .cut _ a b=>slim a/\slim b
noncomputable def HG:Ts->Prop
 | .nil=>True
 | .cons t r=>slim t/\HG r
end
noncomputable def okQ (xs:List Str) (t:T):Prop:=okT xs t/\slim t
noncomputable def pairD (fs:List F) (ws:List (List T)):D:=.tup [.lst (fs.map enc),.lst (ws.map fun r=>.lst (r.map eT))]
noncomputable def Pk (xs:List Str) (k:Nat) (fs:List F) (ws:List (List T)):Prop:=fs.length = 3/\ws.length = 3/\(∀ r∈ws,r.length = 3)/\(∀ f∈fs,Gk xs k f)/\∀ r∈ws,∀ t∈r,okQ xs t/\ht t<=5+4 * k
noncomputable def nn (W A:F):Prop:=A = W\/A = .un .neg (.un .neg W)
theorem Kd {A B:F} (hA:sz A<=61) (hB:sz B<=61) {Q:Bool->Prop} (k:Q (!eqD (enc A) (enc B))):jj .ne (enc A) (enc B) Q:=by
 refine ⟨_,?_,k⟩;show (if gH (enc A) (enc B) = true then some (!eqD (enc A) (enc B)) else none) = _;have:=kS A;have:=kS B;rw [if_pos (by unfold gH;rw [show kin (enc A) (enc B) = true by rw [gO A,gO B];rfl,eU,aa,decide_eq_true_eq,decide_eq_true_eq];lia)]
theorem MO {w:Str} {ts:List Str} {A:F} (h:nn (.word w ts) A):eqD (enc A) (enc (.word w ts)) = true/\A = .word w ts\/eqD (enc A) (enc (.word w ts)) = false/\A = .un .neg (.un .neg (.word w ts)):=by
 rcases h with rfl | rfl
 . exact .inl ⟨kC _ (by have:=kS (.word w ts);simp only [sz] at this;lia),rfl⟩
 . exact .inr ⟨by kernel_rfl,rfl⟩
noncomputable def inB:Ss:=Hf (cM 1 (Hf (cM 4 dQ.body)))
theorem MC (n:Nat) {xs:List Str} {w:Str} {ts:List Str} (gW:Go xs (.word w ts)) (s0 s1 s2 s4 s5 s6 s10:Sl) (f g:F) (hf:nn (.word w ts) f) (hg:nn (.word w ts) g) (acc:List D) (ha:acc.length < 1000) {Q:Out->Prop} (q:∀ t,okQ xs t->ht t<=5->Q (.nx [s0,s1,s2,.val (enc (.word w ts)),s4,s5,s6,.val (enc f),.own (acc++[eT t]),.val (enc g),.val (eT t)])):wSs ⟨PP.run Gs gls (n+3),gls,hfs Gs⟩ inB [s0,s1,s2,.val (enc (.word w ts)),s4,s5,s6,.val (enc f),.own acc,.val (enc g),s10] Q:=by
 have ss:=s64;have gN:Go xs (.un .neg (.word w ts)):=⟨by simp [hF],by simp [sz],gW.2.2.1,gW.2.2.2⟩;have gNN:Go xs (.un .neg (.un .neg (.word w ts))):=⟨by simp [hF],by simp [sz],gW.2.2.1,gW.2.2.2⟩;have two:∀ (L:Bool) (t:T),okQ xs t->okQ xs (.rule L (.un .neg (.un .neg (.word w ts))) "" (.cons (.rule (!L) (.un .neg (.word w ts)) "" (.cons t .nil)) .nil))/\ht (.rule L (.un .neg (.un .neg (.word w ts))) "" (.cons (.rule (!L) (.un .neg (.word w ts)) "" (.cons t .nil)) .nil)) = ht t+2:=fun L t h=>⟨⟨⟨gNN,.inl rfl,⟨gN,.inl rfl,h.1,trivial⟩,trivial⟩,⟨by simp [hF],by simp [sz],.inl rfl⟩,⟨⟨by simp [hF],by simp [sz],.inl rfl⟩,h.2,trivial⟩,trivial⟩,by simp [ht,hts]⟩;have szN:∀ {f:F},nn (.word w ts) f->sz f<=61:=fun h=>by rcases h with rfl | rfl<;>simp [sz]
 have ne:∀ {f:F},nn (.word w ts) f->qo .ne (enc f) (enc (.word w ts)) = some (!eqD (enc f) (enc (.word w ts)))/\((!eqD (enc f) (enc (.word w ts))) = true->f = .un .neg (.un .neg (.word w ts))):=fun {f} h=>by
  refine ⟨?_,fun e=>?_⟩
  . obtain ⟨z,e,rfl⟩:=Kd (szN h) (by simp [sz]) (Q:=fun b=>b = !eqD (enc f) (enc (.word w ts))) rfl;exact e
  . rcases MO h with ⟨e1,_⟩ | ⟨_,e1⟩
    . rw [e1] at e;cases e
    . exact e1
 have last:∀ t,okQ xs t->ht t<=5->wSs ⟨PP.run Gs gls (n+3),gls,hfs Gs⟩ (cM 3 inB) [s0,s1,s2,.val (enc (.word w ts)),s4,s5,s6,.val (enc f),.own acc,.val (enc g),.val (eT t)] Q:=fun t h1 h2=>vX (eT t) (by kernel_rfl) rfl (by lia) (hJ.mpr (q t h1 h2))
 have snd:∀ t,okQ xs t->ht t<=3->wSs ⟨PP.run Gs gls (n+3),gls,hfs Gs⟩ (cM 2 inB) [s0,s1,s2,.val (enc (.word w ts)),s4,s5,s6,.val (enc f),.own acc,.val (enc g),.val (eT t)] Q:=fun t h1 h2 =>
  dZ _ (yI (x:=enc g) (y:=enc (.word w ts)) (by kernel_rfl) (by kernel_rfl) (ne hg).1) (fun e=>by
   obtain rfl:=(ne hg).2 e;obtain ⟨o1,o2⟩:=two false t h1;exact eE [.str "right",enc (.un .neg (.un .neg (.word w ts))),eT t] (by kernel_rfl) ((aK (yd (n+2) false (.un .neg (.word w ts)) t)).mpr ⟨_,rfl,last _ o1 (by rw [o2];lia)⟩)) fun _=>last t h1 (by lia)
 refine bB 1 [s0,s1,s2,.val (enc (.word w ts)),s4,s5,s6,.val (enc f),.own acc,.val (enc g),.val (eT .close)] (by kernel_rfl) ?_;refine dZ _ (yI (x:=enc f) (y:=enc (.word w ts)) (by kernel_rfl) (by kernel_rfl) (ne hf).1) (fun e=>?_) fun _=>snd .close ⟨trivial,trivial⟩ (by simp [ht]);obtain rfl:=(ne hf).2 e;obtain ⟨o1,o2⟩:=two true .close ⟨trivial,trivial⟩;exact eE [.str "left",enc (.un .neg (.un .neg (.word w ts))),eT .close] (by kernel_rfl) ((aK (yd (n+2) true (.un .neg (.word w ts)) .close)).mpr ⟨_,rfl,snd _ o1 (by rw [o2];simp [ht])⟩)
theorem Gg (n:Nat) {xs ns:List Str} (h0:0 < ns.length) (h1:ns.length < 100) (hs:∀ t∈ns,t∈xs) (c fam o:Int) (m:Str):fh Gs gls (n+4) 32 [.int c,.lst (ns.map .str),.tup [.int fam,.str m,.int o]] fun D=>∃ fs ws,D = pairD fs ws/\Pk xs 0 fs ws:=by
 have ss:=s64;refine aL dQ rfl rfl rfl ?_;simp only [dQ,init,SI,Nat.reduceAdd,Nat.reduceSub];simp only [↓WS,↓WC,WI,↓reduceIte];refine bw (CM (n+1) c fam ns h0 h1) ?_;rintro _ ⟨w,ts,rfl,tl,tt⟩;simp only [ak,ax,SI,↓WS,↓WC,WI,↓reduceIte];refine ⟨by decide,⟨by decide,by decide⟩,?_⟩;generalize hA:D.lst (ns.map D.str) = a;generalize hB:D.tup [D.int fam,D.str m,D.int o] = b;refine kq (fun zs δ=>∃ (fs:List F) (s:Sl),δ = [.val (.int c),.val a,.val b,.val (enc (.word w ts)),.own (fs.map enc),s,.no,.no,.no,.no,.no]/\fs.length+zs.length = 3/\(∀ f∈fs,nn (.word w ts) f)/\∀ z∈zs,∃ i:Nat,i < 3/\z = .int i) ?_ ?_ _ _ ⟨[],_,rfl,by rw [sG];rfl,(fun f h=>by cases h),fun z hz=>by obtain ⟨i,hi,rfl⟩:=sF hz;exact ⟨i,hi,by simp⟩⟩
 . rintro z zs δ ⟨fs,s,rfl,hl,hf,hz⟩;obtain ⟨i,hi,rfl⟩:=hz z ay;rw [ak] at hl;obtain ⟨d,hd,et⟩:=mN (ds:=[D.int 31,D.int 37,D.int 41]) (j:=(i:Int)) (by lia) (by show (i:Int) < 3;lia)
   obtain ⟨k,k0,k1,rfl⟩:∃ k:Int,0 < k/\k < 100/\d = .int k:=by
    simp only [aC,aQ,or_false] at hd;rcases hd with rfl | rfl | rfl<;>exact ⟨_,by decide,by decide,rfl⟩
   have tn:∀ {f:F},nn (.word w ts) f->∀ g∈fs++[f],nn (.word w ts) g:=fun hn g hg=>(aP.mp hg).elim (hf g) fun z=>by rw [bu.mp z];exact hn
   simp only [ak,ax,SI,↓WS,↓WC,WI,↓reduceIte];refine ⟨by decide,_,et,?_⟩;simp only [↓WS,↓WC,WI,↓reduceIte];refine ⟨⟨k0,by lia⟩,by decide,kg (fun _=>⟨by decide,by decide,by rw [ao];lia,fs++[.un .neg (.un .neg (.word w ts))],_,by rw [aY];rfl,by rw [aj,aV];lia,tn (.inr rfl),fun z q=>hz z (au _ q)⟩) fun _=>⟨by rw [ao];lia,fs++[.word w ts],_,by rw [aY];rfl,by rw [aj,aV];lia,tn (.inl rfl),fun z q=>hz z (au _ q)⟩⟩
 . rintro δ ⟨fs,s,rfl,hl,hf,_⟩;simp only [ax,xF] at hl;simp only [ak,ax,SI,↓WS,↓WC,WI,↓reduceIte];have gW:Go xs (.word w ts):=⟨by simp [hF],by simp [sz],by show ts.length<=30;lia,fun t ht=>.inl (hs t (tt t ht))⟩
   have nnG:∀ {f:F},nn (.word w ts) f->Gk xs 0 f:=fun h=>by
    have tw:∀ t∈ts,t∈xs\/∃ j:Int,0<=j/\j < 10/\t = pl j:=fun t ht=>.inl (hs t (tt t ht));rcases h with rfl | rfl
    . exact ⟨by simp [hF],by simp [sz],by show ts.length<=3;exact tl,tw⟩
    . exact ⟨by simp [hF],by simp [sz],by show ts.length<=3;exact tl,tw⟩
   refine ⟨by decide,?_⟩;refine gb (g:=enc) (fun rest δ=>∃ (acc:List (List T)) (s7 s8 s9 s10:Sl),δ = [.val (.int c),.val a,.val b,.val (enc (.word w ts)),.val (.lst (fs.map enc)),s,.own (acc.map fun r=>.lst (r.map eT)),s7,s8,s9,s10]/\acc.length+rest.length = 3/\(∀ r∈acc,r.length = 3/\∀ t∈r,okQ xs t/\ht t<=5)/\∀ f∈rest,nn (.word w ts) f) ?_ ?_ _ _ ⟨[],_,_,_,_,rfl,by simpa using hl,(fun r h=>by cases h),hf⟩
   . rintro f rest δ ⟨acc,s7,s8,s9,s10,rfl,hl2,ha,hr⟩;rw [ak] at hl2;have hf1:=hr f ay;simp only [ak,ax,SI,↓WS,↓WC,WI,↓reduceIte];refine ⟨by decide,?_⟩;refine gb (g:=enc) (fun rest2 δ=>∃ (acc2:List T) (s9 s10:Sl),δ = [.val (.int c),.val a,.val b,.val (enc (.word w ts)),.val (.lst (fs.map enc)),s,.own (acc.map fun r=>.lst (r.map eT)),.val (enc f),.own (acc2.map eT),s9,s10]/\acc2.length+rest2.length = 3/\(∀ t∈acc2,okQ xs t/\ht t<=5)/\∀ g∈rest2,nn (.word w ts) g) ?_ ?_ _ _ ⟨[],_,_,rfl,by simpa using hl,(fun t h=>by cases h),hf⟩
     . rintro g rest2 δ ⟨acc2,s9,s10,rfl,hl3,ha2,hr2⟩;rw [ak] at hl3;have hg1:=hr2 g ay;exact ⟨_,rfl,MC n gW _ _ _ _ _ _ _ f g hf1 hg1 (acc2.map eT) (by rw [ao];lia) fun t h1 h2=>⟨acc2++[t],_,_,by rw [aY];rfl,by rw [aj,aV];lia,fun u hu=>(aP.mp hu).elim (ha2 u) fun z=>by rw [bu.mp z];exact ⟨h1,h2⟩,fun g z=>hr2 g (au _ z)⟩⟩
     . rintro δ ⟨acc2,s9,s10,rfl,hl3,ha2,_⟩;simp only [ax,xF] at hl3;simp only [SI,↓WS,↓WC,WI,↓reduceIte];refine ⟨by rw [ao];lia,acc++[acc2],_,_,_,_,by rw [aY];rfl,by rw [aj,aV];lia,fun r h=>(aP.mp h).elim (ha r) fun z=>by rw [bu.mp z];exact ⟨hl3,ha2⟩,fun f z=>hr f (au _ z)⟩
   . rintro δ ⟨acc,s7,s8,s9,s10,rfl,hl2,ha,_⟩;simp only [ax,xF] at hl2;simp only [ak,ax,SI,↓WS,↓WC,WI,↓reduceIte];exact ⟨by decide,fs,acc,rfl,hl,hl2,fun r h=>(ha r h).1,fun f h=>nnG (hf f h),fun r h=>(ha r h).2⟩
theorem Aq {α:Type}:∀ {l:List α},l.length = 3->∃ a b c,l = [a,b,c]
 | [a,b,c],_=>⟨a,b,c,rfl⟩
theorem kY (w:Str):∀ (A:F) (k:Int),0<=k->∀ t∈tms (eS (bf w) A k),t∈tms A\/∃ j:Int,0<=j/\j < k+hF A/\t = pl j
 | .yes,_,_,_,h | .no,_,_,_,h=>by cases h
 | .word _ ts,k,k0,t,h=>by
   obtain ⟨s,hs,rfl⟩:=bx.mp h;unfold bf;split
   . exact .inr ⟨k,k0,by simp only [hF];lia,rfl⟩
   . exact .inl hs
 | .un u a,k,k0,t,h=>by
   have:0<=up u/\up u<=1:=by cases u<;>decide
   refine (kY w a (k+up u) (by lia) t h).imp id ?_;rintro ⟨j,j0,j1,e⟩
   exact ⟨j,j0,by simp only [hF];lia,e⟩
 | .bi b x y,k,k0,t,h=>by
   rcases aP.mp h with h | h
   . refine (kY w x k k0 t h).imp (cV _) ?_;rintro ⟨j,j0,j1,e⟩;exact ⟨j,j0,by simp only [hF];lia,e⟩
   . refine (kY w y k k0 t h).imp (aO _) ?_;rintro ⟨j,j0,j1,e⟩;exact ⟨j,j0,by simp only [hF];lia,e⟩
variable {xs:List Str} {k:Nat}
theorem Gk.un {A:F} (u:U) (h:Gk xs k A):Gk xs (k+1) (.un u A):=by
 obtain ⟨a,b,c,t⟩:=h;have:=qz (n:=k) (show 0 < 2 by decide);exact ⟨by simp only [hF];lia,by simp only [sz,cz];lia,by rw [cz];show (tms A).length<=_;lia,t⟩
theorem Gk.bd {A:F} (w:Str) (hk:k<=2) (h:Gk xs k A):Gk xs k (eS (bf w) A 0):=by
 obtain ⟨a,b,c,t⟩:=h;refine ⟨by rw [my];exact a,by rw [kP];exact b,by rw [(kA _ _ _).1];exact c,fun q hq=>?_⟩;rcases kY w A 0 (by decide) q hq with z | ⟨j,j0,j1,e⟩
 . exact t q z
 . exact .inr ⟨j,j0,by lia,e⟩
theorem Gk.up {A:F} {j:Nat} (hk:k<=j) (h:Gk xs k A):Gk xs j A:=by
 obtain ⟨a,b,c,t⟩:=h;have:2 ^ k<=2 ^ j:=fC (by decide) hk;exact ⟨by lia,by lia,by lia,t⟩
noncomputable def Qm (xs:List Str) (m:Nat) (t:T):Prop:=okQ xs t/\ht t<=m
theorem Gk.st {A:F} (h:Gk xs k A) (hk:k<=3):Go xs A/\hF A<=9/\sz A<=59:=by
 have g:=h.go hk;obtain ⟨a,b,c,t⟩:=h;have:2 ^ k<=8:=fC (by decide) hk;exact ⟨g,by lia,by lia⟩
theorem Qm.one {m:Nat} {t:T} {A:F} {w:Str} (L:Bool) (hA:Go xs A/\hF A<=9/\sz A<=59) (hw:w = ""\/w∈xs) (h:Qm xs m t):Qm xs (m+1) (.rule L A w (.cons t .nil)) :=
 ⟨⟨⟨hA.1,hw,h.1.1,trivial⟩,⟨hA.2.1,hA.2.2,.inl rfl⟩,h.1.2,trivial⟩,by have:=h.2;simp only [ht,hts];lia⟩
theorem Qm.two {m:Nat} {s t:T} {A:F} (L:Bool) (hA:Go xs A/\hF A<=9/\sz A<=59) (g:Qm xs m s) (h:Qm xs m t):Qm xs (m+1) (.rule L A "" (.cons s (.cons t .nil))) :=
 ⟨⟨⟨hA.1,.inl rfl,g.1.1,h.1.1,trivial⟩,⟨hA.2.1,hA.2.2,.inr rfl⟩,g.1.2,h.1.2,trivial⟩,by have:=h.2;have:=g.2;simp only [ht,hts];lia⟩
theorem Qm.up {m m':Nat} {t:T} (h:Qm xs m t) (hm:m<=m'):Qm xs m' t:=⟨h.1,bc h.2 hm⟩
noncomputable def sg (L:Bool) (w:Str) (A C:F) (t:T):T:=match L with
 | true=>.rule true A w (.cons (.rule false C w (.cons t .nil)) .nil)
 | false=>.rule false C w (.cons (.rule true A w (.cons t .nil)) .nil)
theorem LO {m:Nat} {L:Bool} {w:Str} {A C:F} {t:T} (hA:Go xs A/\hF A<=9/\sz A<=59) (hC:Go xs C/\hF C<=9/\sz C<=59) (hw:w = ""\/w∈xs) (h:Qm xs m t):Qm xs (m+4) (sg L w A C t):=by
 cases L
 . exact ((h.one true hA hw).one false hC hw).up (by lia)
 . exact ((h.one false hC hw).one true hA hw).up (by lia)
theorem Pk.mk9 {h0 h1 h2:F} {a b c d e f g h i:T} (H:∀ x∈[h0,h1,h2],Gk xs k x) (W:∀ t∈[a,b,c,d,e,f,g,h,i],Qm xs (5+4 * k) t):Pk xs k [h0,h1,h2] [[a,b,c],[d,e,f],[g,h,i]]:=by
 refine ⟨rfl,rfl,fun r hr=>?_,H,fun r hr t ht=>W t ?_⟩
 . simp only [aC,aQ,or_false] at hr;rcases hr with rfl | rfl | rfl<;>rfl
 . rw [show [a,b,c,d,e,f,g,h,i] = [[a,b,c],[d,e,f],[g,h,i]].flatten from rfl,Fb];exact ⟨r,hr,ht⟩
theorem KY {P:F->Prop} {a b c:F} (ha:P a) (hb:P b) (hc:P c):∀ x∈[a,b,c],P x:=fun x hx=>by
 simp only [aC,aQ,or_false] at hx;rcases hx with rfl | rfl | rfl<;>assumption
theorem CA {L:Bool} {w:Str} {h0 h1 h2:F} {a b c d e f g h i:T} (hk:k<=2) (H:∀ x∈[h0,h1,h2],Gk xs (k+1) x) (hw:w = ""\/w∈xs) (W:∀ t∈[a,b,c,d,e,f,g,h,i],Qm xs (5+4 * k) t):Pk xs (k+1) [h0,h1,h2] [[sg L w h0 h0 a,sg L w h0 h1 b,sg L w h0 h2 c],[sg L w h1 h0 d,sg L w h1 h1 e,sg L w h1 h2 f],[sg L w h2 h0 g,sg L w h2 h1 h,sg L w h2 h2 i]]:=by
 refine .mk9 H fun t ht=>?_;simp only [cG,aQ,false_implies,implies_true,and_true] at H W;obtain ⟨H0,H1,H2⟩:=H;obtain ⟨a,b,c,d,e,f,g,h,i⟩:=W;have H0:=H0.st (by lia);have H1:=H1.st (by lia);have H2:=H2.st (by lia);simp only [aC,aQ,or_false] at ht;rcases ht with rfl | rfl | rfl | rfl | rfl | rfl | rfl | rfl | rfl<;>exact LO ‹_› ‹_› hw ‹_›
theorem Pk.out {fs:List F} {ws:List (List T)} (h:Pk xs k fs ws):∃ f0 f1 f2 a b c d e f g h i,fs = [f0,f1,f2]/\ws = [[a,b,c],[d,e,f],[g,h,i]]/\(∀ x∈[f0,f1,f2],Gk xs k x)/\∀ t∈[a,b,c,d,e,f,g,h,i],Qm xs (5+4 * k) t:=by
 obtain ⟨l1,l2,l3,H,W⟩:=h;obtain ⟨f0,f1,f2,rfl⟩:=Aq l1;obtain ⟨r0,r1,r2,rfl⟩:=Aq l2;simp only [cG,aQ,false_implies,implies_true,and_true] at l3;obtain ⟨a,b,c,rfl⟩:=Aq l3.1;obtain ⟨d,e,f,rfl⟩:=Aq l3.2.1;obtain ⟨g,h,i,rfl⟩:=Aq l3.2.2;refine ⟨f0,f1,f2,a,b,c,d,e,f,g,h,i,rfl,rfl,H,fun t ht=>?_⟩;rw [show [a,b,c,d,e,f,g,h,i] = [[a,b,c],[d,e,f],[g,h,i]].flatten from rfl,Fb] at ht;obtain ⟨r,hr,ht⟩:=ht;exact W r hr t ht
theorem LS (n:Nat) (own:Str) (o:Int) (ho:0<=o/\o < 2) (hk:k<=2) {fs:List F} {ws:List (List T)} (hP:Pk xs k fs ws):fh Gs gls (n+1) 33 [.str "not",.str own,pairD fs ws,.int o] fun D=>∃ fs ws,D = pairD fs ws/\Pk xs (k+1) fs ws:=by
 obtain ⟨f0,f1,f2,a,b,c,d,e,f,g,h,i,rfl,rfl,H,W⟩:=hP.out
 have W':∀ t∈[a,d,g,b,e,h,c,f,i],Qm xs (5+4 * k) t:=fun t ht=>W t (by
  simp only [aC,aQ,or_false] at ht ⊢;rcases ht with h | h | h | h | h | h | h | h | h<;>simp only [h,true_or,or_true])
 simp only [cG,aQ,false_implies,implies_true,and_true] at H;have K:∀ L:Bool,_:=fun L=>CA (L:=L) hk (KY (H.1.un .neg) (H.2.1.un .neg) (H.2.2.un .neg)) (.inl rfl) W';rcases (show o = 0\/o = 1 by lia) with rfl | rfl
 . exact (aK (by kernel_rfl)).mpr ⟨_,_,rfl,K false⟩
 . exact (aK (by kernel_rfl)).mpr ⟨_,_,rfl,K true⟩
end P1
end
section
namespace P1
open PySem L2 PP
variable {xs:List Str} {k:Nat}
theorem Jn (n:Nat) (u:U) (hu:u≠.neg) (own:Str) (hw:own∈xs) (o:Int) (hk:k<=2) {fs:List F} {ws:List (List T)} (hP:Pk xs k fs ws):fh Gs gls (n+20) 33 [.str u.s,.str own,pairD fs ws,.int o] fun D=>∃ fs ws,D = pairD fs ws/\Pk xs (k+1) fs ws:=by
 obtain ⟨f0,f1,f2,a,b,c,d,e,f,g,h,i,rfl,rfl,H,W⟩:=hP.out;have ss:=s64;refine aL gE rfl rfl rfl ?_;simp only [gE,init,SI,Nat.reduceAdd,Nat.reduceSub];refine bB 1 [.val (.str u.s),.val (.str own),.val (pairD [f0,f1,f2] [[a,b,c],[d,e,f],[g,h,i]]),.val (.int o),.own [],.no,.no,.no,.no,.no,.no,.no,.no] (by kernel_rfl) ?_;refine fY (R:=fun δ=>∃ s,δ = [.val (.str u.s),.val (.str own),.val (pairD [f0,f1,f2] [[a,b,c],[d,e,f],[g,h,i]]),.val (.int o),.own ([f0,f1,f2].map fun x=>enc (.un u (eS (bf own) x 0))),s,.no,.no,.no,.no,.no,.no,.no]) 1 _ _ ?_ ?_
 . simp only [cM,iz,pairD,ak,ax,SI,↓WS,↓WC,WI,↓reduceIte];refine gb (g:=enc) (fun rest δ=>∃ (acc:List F) (s:Sl),δ = [.val (.str u.s),.val (.str own),.val (pairD [f0,f1,f2] [[a,b,c],[d,e,f],[g,h,i]]),.val (.int o),.own (acc.map fun x=>enc (.un u (eS (bf own) x 0))),s,.no,.no,.no,.no,.no,.no,.no]/\acc++rest = [f0,f1,f2]/\∀ x∈rest,Gk xs k x) ?_ ?_ _ _ ⟨[],_,rfl,rfl,H⟩
   . rintro x rest δ ⟨acc,s,rfl,eq,hr⟩;have gx:=hr x ay;have hl:acc.length<=3:=by have:=congrArg zf eq;simp only [aj,ak,ax] at this;lia
     have kk:hF x<=7:=by have:=gx.1;lia
     have wb:=jn x (n+19) own 0 (by lia) (by decide) (by lia) (nC (by have:=(gx.go (by lia)).2.2.1;lia));simp only [ak,ax,SI,↓WS,↓WC,WI,↓reduceIte];refine kg (fun z=>?_) fun _=>(aK wb).mpr ⟨by decide,by rw [ao];lia,acc++[x],_,by rw [aY];rfl,by rw [dG];exact eq,fun y hy=>hr y (au _ hy)⟩
     cases u with
     | neg=>exact absurd rfl hu
     | all=>exact absurd z (by decide +kernel)
     | ex=>exact absurd z (by decide +kernel)
   . rintro δ ⟨acc,s,rfl,eq,_⟩;rw [bS] at eq;rw [eq];exact ⟨.nx _,rfl,_,rfl⟩
 . rintro δ ⟨s,rfl⟩;simp only [cG,aQ,false_implies,implies_true,and_true] at H;have K:∀ L:Bool,_:=fun L=>CA (L:=L) (w:=own) hk (KY ((H.1.bd own hk).un u) ((H.2.1.bd own hk).un u) ((H.2.2.bd own hk).un u)) (.inr hw) W
   cases u with
   | neg=>exact absurd rfl hu
   | all=>exact cH (by kernel_rfl) ⟨_,_,rfl,K false⟩
   | ex=>exact cH (by kernel_rfl) ⟨_,_,rfl,K true⟩
theorem Gk.bi {A C:F} (b:B) (h:Gk xs k A) (g:Gk xs k C):Gk xs (k+1) (.bi b A C):=by
 obtain ⟨a,b,c,t⟩:=h;obtain ⟨a',b',c',t'⟩:=g;refine ⟨by simp only [hF];lia,by simp only [sz,cz];lia,?_,fun q hq=>(aP.mp hq).elim (t q) (t' q)⟩;show (tms A++tms C).length<=_;rw [aj,cz];lia
theorem Gk.orn {A C:F} (h:Gk xs k A) (g:Gk xs k C):Gk xs (k+1) (.bi .or (.un .neg A) C):=by
 obtain ⟨a,b,c,t⟩:=h;obtain ⟨a',b',c',t'⟩:=g;refine ⟨by simp only [hF];lia,by simp only [sz,cz];lia,?_,fun q hq=>(aP.mp hq).elim (t q) (t' q)⟩;show (tms A++tms C).length<=_;rw [aj,cz];lia
noncomputable def fm (b:B) (t:Bool) (x y:F):F:=match t,b with
 | true,.imp=>.bi .or (.un .neg x) y
 | true,b=>.bi b y x
 | false,b=>.bi b x y
theorem Ee {b:B} {t:Bool} {x y:F} (h:Gk xs k x) (g:Gk xs k y):Gk xs (k+1) (fm b t x y):=by
 cases t
 . exact h.bi b g
 . cases b
   . exact g.bi .and h
   . exact g.bi .or h
   . exact h.orn g
noncomputable def rl (L:Bool) (A:F) (t:T):T:=.rule L A "" (.cons t .nil)
noncomputable def r2 (L:Bool) (A:F) (s t:T):T:=.rule L A "" (.cons s (.cons t .nil))
noncomputable def lh (o:Bool) (L:Bool) (A C:F) (s t:T):T:=match o with
 | true=>r2 (!L) C (rl L A s) (rl L A t)
 | false=>rl L A (r2 (!L) C s t)
noncomputable def tw (b:Bool) (f:T->T->T) (s t:T):T:=match b with
 | true=>f t s
 | false=>f s t
noncomputable def op (b:Bool) (L:Bool) (A:F) (t:T):T:=match b with
 | true=>rl L (.un .neg A) t
 | false=>t
noncomputable def wy (b:B) (o tf tg:Bool) (hf hg xf xg:F) (one two eno:T):T:=match b with
 | .imp=>rl false hg (op tg false xg (r2 true hf (op tf true xf eno) two))
 | .and=>tw tg (lh o true hf hg) one two
 | .or=>tw tf (lh o false hg hf) one two
theorem yx {m:Nat} {o L:Bool} {A C:F} {s t:T} (hA:Go xs A/\hF A<=9/\sz A<=59) (hC:Go xs C/\hF C<=9/\sz C<=59) (h1:Qm xs m s) (h2:Qm xs m t):Qm xs (m+4) (lh o L A C s t):=by
 cases o
 . exact ((h1.two _ hC h2).one L hA (.inl rfl)).up (by lia)
 . exact ((h1.one L hA (.inl rfl)).two _ hC (h2.one L hA (.inl rfl))).up (by lia)
theorem HL {m:Nat} {b L:Bool} {A:F} {t:T} (hA:Gk xs k A) (hk:k<=2) (h:Qm xs m t):Qm xs (m+1) (op b L A t):=by
 cases b
 . exact h.up (by lia)
 . exact h.one L ((hA.un .neg).st (by lia)) (.inl rfl)
theorem Lr {m:Nat} {b:B} {o tf tg:Bool} {hf hg xf xg:F} {one two eno:T} (hk:k<=2) (a:Gk xs (k+1) hf) (c:Gk xs (k+1) hg) (x:Gk xs k xf) (y:Gk xs k xg) (h1:Qm xs m one) (h2:Qm xs m two) (h3:Qm xs m eno):Qm xs (m+4) (wy b o tf tg hf hg xf xg one two eno):=by
 have a:=a.st (by lia);have c:=c.st (by lia);cases b
 . cases tg
   . exact yx a c h1 h2
   . exact yx a c h2 h1
 . cases tf
   . exact yx c a h1 h2
   . exact yx c a h2 h1
 . exact (HL y hk ((HL x hk h3).two true a (h2.up (by lia)))).one false c (.inl rfl)
noncomputable def wys (b:B) (o:Bool) (t0 t1 t2:Bool) (h0 h1 h2 x0 x1 x2:F) (a0 a1 a2 a3 a4 a5 a6 a7 a8 c0 c1 c2 c3 c4 c5 c6 c7 c8:T):List (List T) :=
 [[wy b o t0 t0 h0 h0 x0 x0 a0 c0 a0,wy b o t0 t1 h0 h1 x0 x1 a1 c1 a3,wy b o t0 t2 h0 h2 x0 x2 a2 c2 a6],
  [wy b o t1 t0 h1 h0 x1 x0 a3 c3 a1,wy b o t1 t1 h1 h1 x1 x1 a4 c4 a4,wy b o t1 t2 h1 h2 x1 x2 a5 c5 a7],
  [wy b o t2 t0 h2 h0 x2 x0 a6 c6 a2,wy b o t2 t1 h2 h1 x2 x1 a7 c7 a5,wy b o t2 t2 h2 h2 x2 x2 a8 c8 a8]]
noncomputable def prD (x0 x1 x2:F) (a0 a1 a2 a3 a4 a5 a6 a7 a8:T):D:=pairD [x0,x1,x2] [[a0,a1,a2],[a3,a4,a5],[a6,a7,a8]]
noncomputable def dl (n:Nat) (b:B) (c:Int) (o t0 t1 t2:Bool) (x0 x1 x2 y0 y1 y2:F) (a0 a1 a2 a3 a4 a5 a6 a7 a8 c0 c1 c2 c3 c4 c5 c6 c7 c8:T) (s7 s8 s9:Sl):Option D :=
 LP (dH ⟨PP.run Gs gls (n+1),gls,hfs Gs⟩ (cM 3 dC.body) [.val (.str b.s),.val (.int c),.val (prD x0 x1 x2 a0 a1 a2 a3 a4 a5 a6 a7 a8),.val (prD y0 y1 y2 c0 c1 c2 c3 c4 c5 c6 c7 c8),.val (.int o.toInt),.own [enc (fm b t0 x0 y0),enc (fm b t1 x1 y1),enc (fm b t2 x2 y2)],.own [.bl t0,.bl t1,.bl t2],s7,s8,s9,.no])
theorem MP (n:Nat) (b:B) (c:Int) (o t0 t1 t2:Bool) (x0 x1 x2 y0 y1 y2:F) (a0 a1 a2 a3 a4 a5 a6 a7 a8 c0 c1 c2 c3 c4 c5 c6 c7 c8:T) (s7 s8 s9:Sl):dl n b c o t0 t1 t2 x0 x1 x2 y0 y1 y2 a0 a1 a2 a3 a4 a5 a6 a7 a8 c0 c1 c2 c3 c4 c5 c6 c7 c8 s7 s8 s9 = some (pairD [fm b t0 x0 y0,fm b t1 x1 y1,fm b t2 x2 y2] (wys b o t0 t1 t2 (fm b t0 x0 y0) (fm b t1 x1 y1) (fm b t2 x2 y2) x0 x1 x2 a0 a1 a2 a3 a4 a5 a6 a7 a8 c0 c1 c2 c3 c4 c5 c6 c7 c8)):=by
 cases b<;>cases o<;>cases t0<;>cases t1<;>cases t2<;>kernel_rfl
noncomputable def dk (n:Nat) (b:B) (c o:Int) (P R:D) (fs ts:List D) (i:Int) (s8 s9:Sl):Option Out :=
 dH ⟨PP.run Gs gls (n+1),gls,hfs Gs⟩ (Hf (cM 2 dC.body)) [.val (.str b.s),.val (.int c),.val P,.val R,.val (.int o),.own fs,.own ts,.val (.int i),s8,s9,.no]
noncomputable def dm (n:Nat) (b:B) (c o:Int) (P R:D) (fs ts:List D) (i:Int) (x y:F):Option Out :=
 dH ⟨PP.run Gs gls (n+1),gls,hfs Gs⟩ (cM 3 (Hf (cM 2 dC.body))) [.val (.str b.s),.val (.int c),.val P,.val R,.val (.int o),.own fs,.own ts,.val (.int i),.val (enc x),.val (enc y),.no]
noncomputable def de (b:B) (c o:Int) (P R:D) (fs ts:List D) (i:Int) (x y:F):Option Out:=some (.nx [.val (.str b.s),.val (.int c),.val P,.val R,.val (.int o),.own fs,.own ts,.val (.int i),.val (enc x),.val (enc y),.no])
theorem NP (n:Nat) (b:B) (c o:Int) (x0 x1 x2 y0 y1 y2:F) (a0 a1 a2 a3 a4 a5 a6 a7 a8 c0 c1 c2 c3 c4 c5 c6 c7 c8:T) (s8 s9:Sl):dk n b c o (prD x0 x1 x2 a0 a1 a2 a3 a4 a5 a6 a7 a8) (prD y0 y1 y2 c0 c1 c2 c3 c4 c5 c6 c7 c8) [] [] 0 s8 s9 = de b c o (prD x0 x1 x2 a0 a1 a2 a3 a4 a5 a6 a7 a8) (prD y0 y1 y2 c0 c1 c2 c3 c4 c5 c6 c7 c8) [enc (fm b (decide (c / 1 % 2 = 1)) x0 y0)] [.bl (decide (c / 1 % 2 = 1))] 0 x0 y0:=by
 refine Eq.trans (b:=dm n b c o (prD x0 x1 x2 a0 a1 a2 a3 a4 a5 a6 a7 a8) (prD y0 y1 y2 c0 c1 c2 c3 c4 c5 c6 c7 c8) [] [.bl (decide (c / 1 % 2 = 1))] 0 x0 y0) (by kernel_rfl) ?_;generalize decide (c / 1 % 2 = 1) = t;cases b<;>cases t<;>kernel_rfl
theorem NO (n:Nat) (b:B) (c o:Int) (u:D) (t0:Bool) (x0 x1 x2 y0 y1 y2:F) (a0 a1 a2 a3 a4 a5 a6 a7 a8 c0 c1 c2 c3 c4 c5 c6 c7 c8:T) (s8 s9:Sl):dk n b c o (prD x0 x1 x2 a0 a1 a2 a3 a4 a5 a6 a7 a8) (prD y0 y1 y2 c0 c1 c2 c3 c4 c5 c6 c7 c8) [u] [.bl t0] 1 s8 s9 = de b c o (prD x0 x1 x2 a0 a1 a2 a3 a4 a5 a6 a7 a8) (prD y0 y1 y2 c0 c1 c2 c3 c4 c5 c6 c7 c8) [u,enc (fm b (decide (c / 2 % 2 = 1)) x1 y1)] [.bl t0,.bl (decide (c / 2 % 2 = 1))] 1 x1 y1:=by
 refine Eq.trans (b:=dm n b c o (prD x0 x1 x2 a0 a1 a2 a3 a4 a5 a6 a7 a8) (prD y0 y1 y2 c0 c1 c2 c3 c4 c5 c6 c7 c8) [u] [.bl t0,.bl (decide (c / 2 % 2 = 1))] 1 x1 y1) (by kernel_rfl) ?_;generalize decide (c / 2 % 2 = 1) = t;cases b<;>cases t<;>kernel_rfl
theorem NN (n:Nat) (b:B) (c o:Int) (u v:D) (t0 t1:Bool) (x0 x1 x2 y0 y1 y2:F) (a0 a1 a2 a3 a4 a5 a6 a7 a8 c0 c1 c2 c3 c4 c5 c6 c7 c8:T) (s8 s9:Sl):dk n b c o (prD x0 x1 x2 a0 a1 a2 a3 a4 a5 a6 a7 a8) (prD y0 y1 y2 c0 c1 c2 c3 c4 c5 c6 c7 c8) [u,v] [.bl t0,.bl t1] 2 s8 s9 = de b c o (prD x0 x1 x2 a0 a1 a2 a3 a4 a5 a6 a7 a8) (prD y0 y1 y2 c0 c1 c2 c3 c4 c5 c6 c7 c8) [u,v,enc (fm b (decide (c / 4 % 2 = 1)) x2 y2)] [.bl t0,.bl t1,.bl (decide (c / 4 % 2 = 1))] 2 x2 y2:=by
 refine Eq.trans (b:=dm n b c o (prD x0 x1 x2 a0 a1 a2 a3 a4 a5 a6 a7 a8) (prD y0 y1 y2 c0 c1 c2 c3 c4 c5 c6 c7 c8) [u,v] [.bl t0,.bl t1,.bl (decide (c / 4 % 2 = 1))] 2 x2 y2) (by kernel_rfl) ?_;generalize decide (c / 4 % 2 = 1) = t;cases b<;>cases t<;>kernel_rfl
theorem CO (n:Nat) (b:B) (c o:Int) (ho:0<=o/\o < 2) (hk:k<=2) {fs gs:List F} {ws vs:List (List T)} (hP:Pk xs k fs ws) (hQ:Pk xs k gs vs):fh Gs gls (n+2) 35 [.str b.s,.int c,pairD fs ws,pairD gs vs,.int o] fun D=>∃ fs ws,D = pairD fs ws/\Pk xs (k+1) fs ws:=by
 obtain ⟨x0,x1,x2,a0,a1,a2,a3,a4,a5,a6,a7,a8,rfl,rfl,H,W⟩:=hP.out;obtain ⟨y0,y1,y2,c0,c1,c2,c3,c4,c5,c6,c7,c8,rfl,rfl,I,V⟩:=hQ.out;have ss:=s64
 obtain ⟨o',eo⟩:∃ o':Bool,o = o'.toInt:=by
  rcases (show o = 0\/o = 1 by lia) with rfl | rfl
  . exact ⟨false,rfl⟩
  . exact ⟨true,rfl⟩
 generalize eP:pairD [x0,x1,x2] [[a0,a1,a2],[a3,a4,a5],[a6,a7,a8]] = P;generalize eR:pairD [y0,y1,y2] [[c0,c1,c2],[c3,c4,c5],[c6,c7,c8]] = R;refine aL dC rfl rfl rfl ?_;simp only [dC,init,SI,Nat.reduceAdd,Nat.reduceSub];refine bB 2 [.val (.str b.s),.val (.int c),.val P,.val R,.val (.int o),.own [],.own [],.no,.no,.no,.no] (by kernel_rfl) ?_;refine fY (R:=fun δ=>∃ (t0 t1 t2:Bool) (s7 s8 s9:Sl),δ = [.val (.str b.s),.val (.int c),.val P,.val R,.val (.int o),.own [enc (fm b t0 x0 y0),enc (fm b t1 x1 y1),enc (fm b t2 x2 y2)],.own [.bl t0,.bl t1,.bl t2],s7,s8,s9,.no]) 1 _ _ ?_ ?_
 . subst eP eR;simp only [cM,iz,ak,ax,SI,↓WS,↓WC,WI,↓reduceIte];refine ⟨by decide,?_⟩;generalize eF:(fun ts:List Bool=>(ts.zip [(x0,y0),(x1,y1),(x2,y2)]).map fun p=>enc (fm b p.1 p.2.1 p.2.2)) = fD;refine kq (fun zs δ=>∃ (ts:List Bool) (s7 s8 s9:Sl),δ = [.val (.str b.s),.val (.int c),.val (prD x0 x1 x2 a0 a1 a2 a3 a4 a5 a6 a7 a8),.val (prD y0 y1 y2 c0 c1 c2 c3 c4 c5 c6 c7 c8),.val (.int o),.own (fD ts),.own (ts.map .bl),s7,s8,s9,.no]/\ts.length+zs.length = 3/\zs = (([0,1,2]:List Int).drop ts.length).map .int/\(fD ts).length = ts.length) ?_ ?_ _ _ ⟨[],_,_,_,by subst eF;rfl,rfl,rfl,by subst eF;rfl⟩
   . subst eF;rintro z zs δ ⟨ts,s7,s8,s9,rfl,hl,ez,el⟩
     match ts,hl,ez with
     | [],_,ez =>
       cases ez
       exact ⟨_,rfl,_,NP n b c o x0 x1 x2 y0 y1 y2 a0 a1 a2 a3 a4 a5 a6 a7 a8 c0 c1 c2 c3 c4 c5 c6 c7 c8 s8 s9,[decide (c / 1 % 2 = 1)],_,_,_,rfl,rfl,rfl,rfl⟩
     | [t0],_,ez =>
       cases ez
       exact ⟨_,rfl,_,NO n b c o _ t0 x0 x1 x2 y0 y1 y2 a0 a1 a2 a3 a4 a5 a6 a7 a8 c0 c1 c2 c3 c4 c5 c6 c7 c8 s8 s9,[t0,decide (c / 2 % 2 = 1)],_,_,_,rfl,rfl,rfl,rfl⟩
     | [t0,t1],_,ez =>
       cases ez
       exact ⟨_,rfl,_,NN n b c o _ _ t0 t1 x0 x1 x2 y0 y1 y2 a0 a1 a2 a3 a4 a5 a6 a7 a8 c0 c1 c2 c3 c4 c5 c6 c7 c8 s8 s9,[t0,t1,decide (c / 4 % 2 = 1)],_,_,_,rfl,rfl,rfl,rfl⟩
     | _::_::_::_,hl,_=>simp only [ak] at hl;lia
   . rintro δ ⟨ts,s7,s8,s9,rfl,hl,_,_⟩;obtain ⟨t0,t1,t2,rfl⟩:=Aq (l:=ts) (by simpa using hl);subst eF;exact ⟨.nx _,rfl,t0,t1,t2,_,_,_,rfl⟩
 . rintro δ ⟨t0,t1,t2,s7,s8,s9,rfl⟩;subst eP eR;simp only [cG,aQ,false_implies,implies_true,and_true] at H I
   have K:Pk xs (k+1) [fm b t0 x0 y0,fm b t1 x1 y1,fm b t2 x2 y2] (wys b o' t0 t1 t2 (fm b t0 x0 y0) (fm b t1 x1 y1) (fm b t2 x2 y2) x0 x1 x2 a0 a1 a2 a3 a4 a5 a6 a7 a8 c0 c1 c2 c3 c4 c5 c6 c7 c8):=by
    have f0:Gk xs (k+1) (fm b t0 x0 y0):=Ee H.1 I.1;have f1:Gk xs (k+1) (fm b t1 x1 y1):=Ee H.2.1 I.2.1;have f2:Gk xs (k+1) (fm b t2 x2 y2):=Ee H.2.2 I.2.2;obtain ⟨H0,H1,H2⟩:=H;simp only [cG,aQ,false_implies,implies_true,and_true] at W V;obtain ⟨q0,q1,q2,q3,q4,q5,q6,q7,q8⟩:=W;obtain ⟨v0,v1,v2,v3,v4,v5,v6,v7,v8⟩:=V;refine .mk9 (KY f0 f1 f2) fun t ht=>?_;simp only [aC,aQ,or_false] at ht;rcases ht with rfl | rfl | rfl | rfl | rfl | rfl | rfl | rfl | rfl<;>exact Lr hk ‹_› ‹_› ‹_› ‹_› ‹_› ‹_› ‹_›
   generalize eL:wys b o' t0 t1 t2 (fm b t0 x0 y0) (fm b t1 x1 y1) (fm b t2 x2 y2) x0 x1 x2 a0 a1 a2 a3 a4 a5 a6 a7 a8 c0 c1 c2 c3 c4 c5 c6 c7 c8 = L at K;refine cH (d:=pairD [fm b t0 x0 y0,fm b t1 x1 y1,fm b t2 x2 y2] L) ?_ ⟨_,_,rfl,K⟩;subst eL eo;exact MP ..
end P1
end
section
namespace P1
open PySem L2 PP
variable {xs:List Str}
theorem Pk.up {k j:Nat} {fs:List F} {ws:List (List T)} (hk:k<=j) (h:Pk xs k fs ws):Pk xs j fs ws :=
 ⟨h.1,h.2.1,h.2.2.1,fun f hf=>(h.2.2.2.1 f hf).up hk,fun r hr t ht=>⟨(h.2.2.2.2 r hr t ht).1,by have:=(h.2.2.2.2 r hr t ht).2;lia⟩⟩
noncomputable def Bd:Nat->Int
 | 0=>900
 | k+1=>(Bd k - 2) / 2
theorem HX:∀ k,Bd k<=900
 | 0=>by decide
 | k+1=>by have:=HX k;show (Bd k - 2) / 2<=900;lia
noncomputable def pks:List Str:=["word","not","and","or","if","all","some","and"]
theorem Me (v:Int):∃ s:Str,atI (pks.map D.str) (v % 8) = some (.str s)/\(s = "word"\/(∃ u:U,s = u.s)\/∃ b:B,s = b.s):=by
 obtain ⟨x,hx,e⟩:=mN (ds:=pks.map D.str) (cg v (show (8:Int)≠0 by decide)) (bI v (show (0:Int) < 8 by decide));obtain ⟨s,hs,rfl⟩:=bx.mp hx;refine ⟨s,e,?_⟩;rcases (show ∀ s∈pks,s = "word"\/s = "not"\/s = "all"\/s = "some"\/s = "and"\/s = "or"\/s = "if" by decide +kernel) s hs with h | h | h | h | h | h | h
 . exact .inl h
 . exact .inr (.inl ⟨.neg,h⟩)
 . exact .inr (.inl ⟨.all,h⟩)
 . exact .inr (.inl ⟨.ex,h⟩)
 . exact .inr (.inr ⟨.and,h⟩)
 . exact .inr (.inr ⟨.or,h⟩)
 . exact .inr (.inr ⟨.imp,h⟩)
theorem CK {m:Str} (hm:∀ j:Nat,2<=j->j < 5->m++((toString (j:Int):String):Str)∈xs) (ml:m.length<=5) (s:List Int) (fam o:Int) (ho:0<=o/\o < 2):∀ (k n:Nat) (p:Int) (ns:List Str),k<=3->2<=ns.length->ns.length+k<=5->(∀ t∈ns,t∈xs)->0<=p->p<=Bd k->fh Gs gls (n+k+25) 36 [.lst (s.map .int),.int p,.int k,.lst (ns.map .str),.tup [.int fam,.str m,.int o]] fun D=>∃ fs ws,D = pairD fs ws/\Pk xs k fs ws
 | k,n,p,ns,k3,n2,n5,hs,p0,p1=>by
   have ss:=s64;have lf:∀ c:Int,fh Gs gls (n+k+24) 32 [.int c,.lst (ns.map .str),.tup [.int fam,.str m,.int o]] fun D=>∃ fs ws,D = pairD fs ws/\Pk xs k fs ws:=fun c=>bw (Gg (n+k+20) (by lia) (by lia) hs c fam o m) fun d ⟨fs,ws,e,h⟩=>⟨fs,ws,e,h.up (cZ _)⟩;have p1':=HX k;refine aL iX rfl rfl rfl ?_;simp only [iX,init,SI,Nat.reduceAdd,Nat.reduceSub];refine eE [.lst (s.map .int),.int p] (by kernel_rfl) (bw (pR (n+k+23) s p p0 (by lia)) ?_);rintro _ ⟨c,rfl⟩;obtain ⟨kd,ek,hk⟩:=Me c;refine ⟨_,rfl,xH (.str kd) (Ej (x:=.lst (pks.map .str)) (y:=.int (c % 8)) (by kernel_rfl) (by kernel_rfl) ek) ⟨_,rfl,?_⟩⟩;refine dZ (decide ((k:Int) = 0) || (kd == "word")) (Ei (by kernel_rfl) (by kernel_rfl)) (fun _=>iq [.int (c / 8),.lst (ns.map .str),.tup [.int fam,.str m,.int o]] (by kernel_rfl) (lf _)) fun hz=>?_;rw [lE] at hz;have k0:k≠0:=fun e=>by have:=of_decide_eq_false hz.1;lia
   replace hk:=hk.resolve_left (beq_eq_false_iff_ne.mp hz.2);refine bB 0 [.val (.lst (s.map .int)),.val (.int p),.val (.int k),.val (.lst (ns.map .str)),.val (.tup [.int fam,.str m,.int o]),.val (.int c),.val (.str kd),.no,.no,.no,.no] (by kernel_rfl) ?_;obtain ⟨k,rfl⟩:∃ i,k = i+1:=⟨k - 1,by lia⟩;have p1:p<=(Bd k - 2) / 2:=p1;have ih:=fun q ns=>CK hm ml s fam o ho k n q ns (by lia);refine fY (R:=fun δ=>∃ (own:Str) (inn:List Str),δ = [.val (.lst (s.map .int)),.val (.int p),.val (.int (k+1:Nat)),.val (.lst (ns.map .str)),.val (.tup [.int fam,.str m,.int o]),.val (.int c),.val (.str kd),.val (.str own),.own (inn.map .str),.no,.no]/\own∈xs/\(∀ t∈inn,t∈xs)/\2<=inn.length/\inn.length<=ns.length+1) 3 _ _ ?_ ?_
   . have hw:=hm ns.length n2 (by lia);have ap:∀ t∈ns++[m++((toString (ns.length:Int):String):Str)],t∈xs:=fun t ht=>(aP.mp ht).elim (hs t) fun z=>by rw [bu.mp z];exact hw
     simp only [cM,vJ,iz,ak,ax,ao,SI,↓WS,↓WC,WI,↓reduceIte];have tl:((toString (ns.length:Int):String):Str).length<=9:=by rcases (show ns.length = 2\/ns.length = 3\/ns.length = 4 by lia) with e | e | e<;>rw [e]<;>decide +kernel
     refine ⟨kQ (by lia) (by lia),by lia,DQ (fun _=>⟨by lia,_,ns++[_],by rw [aY];rfl,hw,ap,?_,?_⟩) fun _ _=>⟨_,ns,rfl,hw,hs,n2,by lia⟩⟩<;>rw [aj,aV]<;>lia
   rintro δ ⟨own,inn,rfl,ho',hi,i2,i3⟩;refine fY (R:=fun δ=>∃ (fs:List F) (ws:List (List T)),δ = [.val (.lst (s.map .int)),.val (.int p),.val (.int (k+1:Nat)),.val (.lst (ns.map .str)),.val (.tup [.int fam,.str m,.int o]),.val (.int c),.val (.str kd),.val (.str own),.val (.lst (inn.map .str)),.val (pairD fs ws),.no]/\Pk xs k fs ws) 1 _ _ ?_ ?_
   . simp only [cM,vJ,iz,ak,ax,SI,↓WS,↓WC,WI,↓reduceIte];rw [show ((k+1:Nat):Int) - 1 = (k:Int) by lia];refine ⟨mul_r (by lia) (by lia),bw (ih (2 * p+1) inn i2 (by lia) hi (by lia) (by lia)) ?_⟩;rintro _ ⟨fs,ws,rfl,hP⟩;exact ⟨fs,ws,rfl,hP⟩
   rintro δ ⟨fs,ws,rfl,hP⟩;rcases hk with ⟨u,rfl⟩ | ⟨b,rfl⟩
   . refine bD.mpr (dM ⟨true,_,by cases u<;>kernel_rfl,rfl,rfl⟩ ?_);simp only [ak,ax,SI,↓WS,↓WC,WI,↓reduceIte];by_cases hu:u = .neg
     . rw [hu];exact LS (n+k+24) own o ho (by lia) hP
     . exact Jn (n+k+5) u hu own ho' o (by lia) hP
   . refine bB 1 [.val (.lst (s.map .int)),.val (.int p),.val (.int (k+1:Nat)),.val (.lst (ns.map .str)),.val (.tup [.int fam,.str m,.int o]),.val (.int c),.val (.str b.s),.val (.str own),.val (.lst (inn.map .str)),.val (pairD fs ws),.no] (by cases b<;>kernel_rfl) ?_;simp only [cM,vJ,ak,ax,SI,↓WS,↓WC,WI,↓reduceIte];rw [show ((k+1:Nat):Int) - 1 = (k:Int) by lia];refine ⟨mul_r (by lia) (by lia),bw (ih (2 * p+2) ns n2 (by lia) hs (by lia) (by lia)) ?_⟩;rintro _ ⟨gs,vs,rfl,hQ⟩;exact ⟨⟨by decide,by decide⟩,CO (n+k+23) b (c / 8) o ho (by lia) hP hQ⟩
theorem yz:∀ {ks:Ts},tln ks = 1\/tln ks = 2->(∃ t,ks = .cons t .nil)\/∃ s t,ks = .cons s (.cons t .nil)
 | .nil,h=>by rcases h with h | h<;>cases h
 | .cons t .nil,_=>.inl ⟨t,rfl⟩
 | .cons s (.cons t .nil),_=>.inr ⟨s,t,rfl⟩
 | .cons _ (.cons _ (.cons _ r)),h=>by simp only [tln] at h;lia
theorem Gf (n:Nat) (L:Bool) (A:F) (w:Str) (ks:Ts) (y v:Int) (y0:0<=y) (y7:y < 7) (so:List Str) (hs:∀ t∈so,t∈xs) (sl:so.length = 5) (h:okQ xs (.rule L A w ks)):fh Gs gls (n+1) 39 [eT (.rule L A w ks),.int y,.int v,.lst (so.map .str)] fun D=>∃ t,D = eT t/\okT xs t/\ht t<=ht (.rule L A w ks)+1:=by
 obtain ⟨⟨gA,hw,ho⟩,⟨hA,zA,kp⟩,hk⟩:=h;have fin:∀ (L':Bool) (A':F) (w':Str) (ks':Ts),Go xs A'->(w' = ""\/w'∈xs)->wN xs ks'->hts ks'<=hts ks+1->∃ t,eT (.rule L' A' w' ks') = eT t/\okT xs t/\ht t<=ht (.rule L A w ks)+1:=fun L' A' w' ks' g1 g2 g3 g4=>⟨_,rfl,⟨g1,g2,g3⟩,by simp only [ht];lia⟩;have ss:=s64;have q6:0<=v % 6/\v % 6 < 6:=⟨cg _ (by decide),bI _ (by decide)⟩;have q3:0<=v % 3/\v % 3 < 3:=⟨cg _ (by decide),bI _ (by decide)⟩;refine aL cT rfl rfl rfl ?_;simp only [cT,init,SI,Nat.reduceAdd,Nat.reduceSub]
 have nam:∀ y:Int,y = 3\/y = 4->wSs ⟨PP.run Gs gls n,gls,hfs Gs⟩ cT.body [.val (eT (.rule L A w ks)),.val (.int y),.val (.int v),.val (.lst (so.map .str)),.no,.no,.no,.no] (retS fun D=>∃ t,D = eT t/\okT xs t/\ht t<=ht (.rule L A w ks)+1):=fun y hy=>by
  refine bB 4 [.val (eT (.rule L A w ks)),.val (.int y),.val (.int v),.val (.lst (so.map .str)),.val (.str (sd L)),.val (enc A),.val (.str w),.val (.tup (eTs ks))] (by rcases hy with rfl | rfl<;>kernel_rfl) ?_;refine fY (R:=fun δ=>∃ w':Str,δ = [.val (eT (.rule L A w ks)),.val (.int y),.val (.int v),.val (.lst (so.map .str)),.val (.str (sd L)),.val (enc A),.val (.str w'),.val (.tup (eTs ks))]/\(w' = ""\/w'∈xs)) 1 _ _ ?_ ?_
  . simp only [cT,cM,iz,ao,sl,SI,↓WS,↓WC,WI,↓reduceIte];obtain ⟨d,hd,et⟩:=mN (ds:=so.map D.str++[D.str ""]) (j:=v % 6) q6.1 (by rw [aj,ao,sl];exact q6.2)
    have hd:∃ w':Str,d = .str w'/\(w' = ""\/w'∈xs):=by
     rcases aP.mp hd with z | z
     . obtain ⟨t,ht,rfl⟩:=bx.mp z;exact ⟨t,rfl,.inr (hs t ht)⟩
     . exact ⟨"",bu.mp z,.inl rfl⟩
    obtain ⟨w',rfl,hw'⟩:=hd;refine kg (fun _=>⟨by decide,by decide,by decide,_,et,w',rfl,hw'⟩) fun n3=>kg (fun _=>⟨by decide,by decide,by decide,_,et,w',rfl,hw'⟩) fun n4=>by lia
  . rintro δ ⟨w',rfl,hw'⟩;exact cH (d:=eT (.rule L A w' ks)) (by rcases hy with rfl | rfl<;>kernel_rfl) (fin _ _ _ _ gA hw' ho (by lia))
 rcases (show y = 0\/y = 1\/y = 2\/y = 5\/y = 6\/y = 3\/y = 4 by lia) with rfl | rfl | rfl | rfl | rfl | e
 . rcases yz kp with ⟨t,rfl⟩ | ⟨s,t,rfl⟩
   . exact cH (d:=eT (.rule L A w .nil)) (by kernel_rfl) (fin _ _ _ _ gA hw trivial (by simp only [hts];lia))
   . exact cH (d:=eT (.rule L A w (.cons t .nil))) (by kernel_rfl) (fin _ _ _ _ gA hw ho.2 (by simp only [hts];lia))
 . rcases yz kp with ⟨t,rfl⟩ | ⟨s,t,rfl⟩
   . exact cH (d:=eT (.rule L A w (.cons t (.cons .close .nil)))) (by kernel_rfl) (fin _ _ _ _ gA hw ⟨ho.1,trivial,trivial⟩ (by simp only [hts,ht];lia))
   . exact cH (d:=eT (.rule L A w (.cons s (.cons t (.cons .close .nil))))) (by kernel_rfl) (fin _ _ _ _ gA hw ⟨ho.1,ho.2.1,trivial,trivial⟩ (by simp only [hts,ht];lia))
 . rcases yz kp with ⟨t,rfl⟩ | ⟨s,t,rfl⟩
   . exact cH (d:=eT (.rule L A w (.cons t .nil))) (by kernel_rfl) (fin _ _ _ _ gA hw ho (by simp only [hts];lia))
   . exact cH (d:=eT (.rule L A w (.cons t (.cons s .nil)))) (by kernel_rfl) (fin _ _ _ _ gA hw ⟨ho.2.1,ho.1,trivial⟩ (by simp only [hts];lia))
 . exact cH (d:=eT (.rule (!L) A w ks)) (by cases L<;>kernel_rfl) (fin _ _ _ _ gA hw ho (by lia))
 . refine bB 6 [.val (eT (.rule L A w ks)),.val (.int 6),.val (.int v),.val (.lst (so.map .str)),.val (.str (sd L)),.val (enc A),.val (.str w),.val (.tup (eTs ks))] (by kernel_rfl) ?_;refine fY (R:=fun δ=>∃ A':F,δ = [.val (eT (.rule L A w ks)),.val (.int 6),.val (.int v),.val (.lst (so.map .str)),.val (.str (sd L)),.val (enc A'),.val (.str w),.val (.tup (eTs ks))]/\Go xs A') 1 _ _ ?_ ?_
   . simp only [cM,iz,SI,↓WS,↓WC,WI,↓reduceIte];obtain ⟨d,hd,et⟩:=mN (ds:=[enc (.un .neg A),enc (.bi .or A .no),enc .yes]) (j:=v % 3) q3.1 q3.2
     have hd:∃ A':F,d = enc A'/\Go xs A':=by
      simp only [aC,aQ,or_false] at hd;rcases hd with rfl | rfl | rfl
      . exact ⟨_,rfl,by simp only [hF];lia,by simp only [sz];lia,gA.2.2⟩
      . exact ⟨.bi .or A .no,rfl,by simp only [hF];lia,by simp only [sz];lia,by simpa [tms] using gA.2.2⟩
      . exact ⟨.yes,rfl,by simp [hF],by simp [sz],by simp [tms],fun _ h=>by cases h⟩
     obtain ⟨A',rfl,gA'⟩:=hd;exact ⟨by decide,by decide,by decide,by decide,by decide,by decide,_,et,A',rfl,gA'⟩
   . rintro δ ⟨A',rfl,gA'⟩;exact cH (d:=eT (.rule L A' w ks)) (by kernel_rfl) (fin _ _ _ _ gA' hw ho (by lia))
 . exact nam y e
end P1
end
section
namespace P1
open PySem L2 PP
variable {xs so:List Str}
theorem St.go {A:F} (hs:∀ t∈so,t∈xs) (h:St so 1 1 A):Go xs A/\Go xs (.un .neg A):=by
 obtain ⟨a,b,c,d⟩:=h;have d':∀ t∈tms A,t∈xs\/∃ j:Int,0<=j/\j < 10/\t = pl j:=fun t ht=>(d t ht).imp (hs t) fun ⟨j,j0,j1,e⟩=>⟨j,j0,by lia,e⟩;exact ⟨⟨by lia,by lia,by lia,d'⟩,by simp only [hF];lia,by simp only [sz];lia,by show (tms A).length<=_;lia,d'⟩
noncomputable def Ot (xs:List Str) (m:Nat) (D:D):Prop:=∃ t,D = eT t/\okT xs t/\ht t<=m+1
theorem Ge (n:Nat) (t:T) (y v:Int) (y0:0<=y) (y9:y < 10) (hs:∀ t∈so,t∈xs) (sl:so.length = 5) (h:okQ xs t):fh Gs gls (n+6) 40 [eT t,.int y,.int v,.lst (so.map .str)] (Ot xs (ht t)):=by
 refine aL ie rfl rfl rfl ?_;simp only [ie,init,SI,Nat.reduceAdd,Nat.reduceSub];refine fY (R:=fun δ=>∃ A:F,δ = [.val (eT t),.val (.int y),.val (.int v),.val (.lst (so.map .str)),.val (enc A)]/\Go xs A/\Go xs (.un .neg A)) 1 _ _ ?_ ?_
 . simp only [cM,iz,SI,↓WS,↓WC,WI,↓reduceIte];refine ⟨by decide,bw (kx 1 (n+1) 0 (v / 8) v so (by lia) (by lia)) ?_⟩;rintro _ ⟨A,rfl,hA⟩;exact ⟨A,rfl,St.go hs hA⟩
 rintro δ ⟨A,rfl,g1,g2⟩;have hp:1<=ht t:=by cases t<;>simp only [ht]<;>lia
 rcases (show y = 7\/y = 8\/y = 9\/y < 7 by lia) with rfl | rfl | rfl | y7
 . exact cH (d:=eT (.cut A t t)) (by kernel_rfl) ⟨_,rfl,⟨g1,h.1,h.1⟩,by simp only [ht];lia⟩
 . exact cH (d:=eT (.rule true (.un .neg A) "" (.cons t .nil))) (by kernel_rfl) ⟨_,rfl,⟨g2,.inl rfl,h.1,trivial⟩,by simp only [ht,hts];lia⟩
 . cases t with
   | close=>exact cH (d:=eT .close) (by kernel_rfl) ⟨_,rfl,trivial,qO _ _⟩
   | rule L B w ks=>exact cH (d:=eT .close) (by kernel_rfl) ⟨_,rfl,trivial,qO _ _⟩
   | cut B a b=>exact cH (d:=eT (.cut A a b)) (by kernel_rfl) ⟨_,rfl,⟨g1,h.1.2⟩,ik _⟩
 . have e:y = 0\/y = 1\/y = 2\/y = 3\/y = 4\/y = 5\/y = 6:=by lia
   cases t with
   | close=>rcases e with rfl | rfl | rfl | rfl | rfl | rfl | rfl<;>exact cH (d:=eT .close) (by kernel_rfl) ⟨_,rfl,trivial,qO _ _⟩
   | rule L B w ks =>
     have e7:decide (y = 7) = false:=decide_eq_false (by lia);have e8:decide (y = 8) = false:=decide_eq_false (by lia);refine dZ (decide (y = 7)) (by kernel_rfl) (fun z=>by rw [e7] at z;cases z) fun _=>dZ (decide (y = 8)) (by kernel_rfl) (fun z=>by rw [e8] at z;cases z) fun _=>dZ (decide (y < 7)) (by kernel_rfl) (fun _=>?_) fun z=>absurd y7 (of_decide_eq_false z)
     exact iq [eT (.rule L B w ks),.int y,.int v,.lst (so.map .str)] (by kernel_rfl) (Gf (n+4) L B w ks y v y0 y7 so hs sl h)
   | cut B a b =>
     rcases e with rfl | rfl | rfl | rfl | rfl | rfl | rfl
     iterate 4 exact cH (d:=eT (.cut B b a)) (by kernel_rfl) ⟨_,rfl,⟨h.1.1,h.1.2.2,h.1.2.1⟩,by simp only [ht];lia⟩
     iterate 3 exact cH (d:=eT (.cut A a b)) (by kernel_rfl) ⟨_,rfl,⟨g1,h.1.2⟩,ik _⟩
theorem uR (y v:Int) (y0:0<=y) (y9:y < 10) (hs:∀ t∈so,t∈xs) (sl:so.length = 5):∀ (m n:Nat) (t:T) (p:Int),ht t<=m->okQ xs t->fh Gs gls (n+m+7) 41 [eT t,.int p,.int y,.int v,.lst (so.map .str)] (Ot xs (ht t))
 | 0,n,t,p,hm,h=>by cases t<;>simp only [ht] at hm<;>lia
 | m+1,n,t,p,hm,h=>by
   have ot:=Ge (n+m+1) t y v y0 y9 hs sl h;have ih:=fun k q hk ok=>uR y v y0 y9 hs sl m n k q hk ok;refine aL gC rfl rfl rfl ?_;simp only [gC,init,SI,Nat.reduceAdd,Nat.reduceSub]
   cases t with
   | close=>exact dZ true (by kernel_rfl) (fun _=>iq [eT .close,.int y,.int v,.lst (so.map .str)] (by kernel_rfl) ot) fun h=>by cases h
   | rule L A w ks =>
     have hA:=h.1;rcases yz h.2.1.2.2 with ⟨k,rfl⟩ | ⟨j,k,rfl⟩
     . refine dZ (decide (p % 5 = 0)) (by kernel_rfl) (fun _=>iq [eT (.rule L A w (.cons k .nil)),.int y,.int v,.lst (so.map .str)] (by kernel_rfl) ot) fun _=>?_;refine bB 1 [.val (eT (.rule L A w (.cons k .nil))),.val (.int p),.val (.int y),.val (.int v),.val (.lst (so.map .str)),.val (.int (p / 5 % 1)),.no] (by kernel_rfl) ?_;generalize hj:p / 5 % 1 = i;obtain rfl:i = 0:=by lia
       refine eE [eT k,.int (p / 10),.int y,.int v,.lst (so.map .str)] (by kernel_rfl) (bw (ih k (p / 10) (by simp only [ht,hts] at hm;lia) ⟨hA.2.2.1,h.2.2.1⟩) ?_);rintro _ ⟨k',rfl,ok,hk⟩;exact ⟨_,rfl,cH (d:=eT (.rule L A w (.cons k' .nil))) (by kernel_rfl) ⟨_,rfl,⟨hA.1,hA.2.1,ok,trivial⟩,by simp only [ht,hts];lia⟩⟩
     . refine dZ (decide (p % 5 = 0)) (by kernel_rfl) (fun _=>iq [eT (.rule L A w (.cons j (.cons k .nil))),.int y,.int v,.lst (so.map .str)] (by kernel_rfl) ot) fun _=>?_;refine bB 1 [.val (eT (.rule L A w (.cons j (.cons k .nil)))),.val (.int p),.val (.int y),.val (.int v),.val (.lst (so.map .str)),.val (.int (p / 5 % 2)),.no] (by kernel_rfl) ?_;generalize hj:p / 5 % 2 = i;rcases (show i = 0\/i = 1 by lia) with rfl | rfl
       . refine eE [eT j,.int (p / 10),.int y,.int v,.lst (so.map .str)] (by kernel_rfl) (bw (ih j (p / 10) (by simp only [ht,hts] at hm;lia) ⟨hA.2.2.1,h.2.2.1⟩) ?_);rintro _ ⟨k',rfl,ok,hk⟩;exact ⟨_,rfl,cH (d:=eT (.rule L A w (.cons k' (.cons k .nil)))) (by kernel_rfl) ⟨_,rfl,⟨hA.1,hA.2.1,ok,hA.2.2.2⟩,by simp only [ht,hts];lia⟩⟩
       . refine eE [eT k,.int (p / 10),.int y,.int v,.lst (so.map .str)] (by kernel_rfl) (bw (ih k (p / 10) (by simp only [ht,hts] at hm;lia) ⟨hA.2.2.2.1,h.2.2.2.1⟩) ?_);rintro _ ⟨k',rfl,ok,hk⟩
         exact ⟨_,rfl,cH (d:=eT (.rule L A w (.cons j (.cons k' .nil)))) (by kernel_rfl) ⟨_,rfl,⟨hA.1,hA.2.1,hA.2.2.1,ok,trivial⟩,by simp only [ht,hts];lia⟩⟩
   | cut A a b =>
     have hA:=h.1;refine dZ (decide (p % 5 = 0)) (by kernel_rfl) (fun _=>iq [eT (.cut A a b),.int y,.int v,.lst (so.map .str)] (by kernel_rfl) ot) fun _=>?_;refine bB 1 [.val (eT (.cut A a b)),.val (.int p),.val (.int y),.val (.int v),.val (.lst (so.map .str)),.val (.int (p / 5 % 2)),.no] (by kernel_rfl) ?_;generalize hj:p / 5 % 2 = i;rcases (show i = 0\/i = 1 by lia) with rfl | rfl
     . refine eE [eT a,.int (p / 10),.int y,.int v,.lst (so.map .str)] (by kernel_rfl) (bw (ih a (p / 10) (by simp only [ht] at hm;lia) ⟨hA.2.1,h.2.1⟩) ?_);rintro _ ⟨k',rfl,ok,hk⟩;exact ⟨_,rfl,cH (d:=eT (.cut A k' b)) (by kernel_rfl) ⟨_,rfl,⟨hA.1,ok,hA.2.2⟩,by simp only [ht];lia⟩⟩
     . refine eE [eT b,.int (p / 10),.int y,.int v,.lst (so.map .str)] (by kernel_rfl) (bw (ih b (p / 10) (by simp only [ht] at hm;lia) ⟨hA.2.2,h.2.2⟩) ?_);rintro _ ⟨k',rfl,ok,hk⟩;exact ⟨_,rfl,cH (d:=eT (.cut A a k')) (by kernel_rfl) ⟨_,rfl,⟨hA.1,hA.2.1,ok⟩,by simp only [ht];lia⟩⟩
end P1
end
section
namespace P1
open PySem L2 PP
theorem Jk (n:Nat) (ns:List Int):fh Gs gls (n+2) 37 [.lst (ns.map .int)] fun D=>∃ (a b m:Str) (fam o:Int),D = .tup [.lst [.str a,.str b],.tup [.int fam,.str m,.int o]]/\nm a/\nm b/\(m = "c"\/m = "n")/\0<=o/\o < 2:=by
 have nz:nm "z":=⟨122,[],rfl,by decide,by decide⟩;refine aL iZ rfl rfl rfl ?_;simp only [iZ,init,SI,Nat.reduceAdd,Nat.reduceSub];simp only [ak,ax,SI,↓WS,↓WC,WI,↓reduceIte];refine bw (pR n ns 0 (by decide) (by decide)) ?_;rintro _ ⟨c,rfl⟩;simp only [ak,ax,SI,↓WS,↓WC,WI,↓reduceIte];refine ⟨by decide,bw (wJ n (c / 4) "z" (by decide +kernel) nz 0 (by decide) (by decide)) ?_⟩;rintro _ ⟨a,rfl,ha⟩;refine ⟨by decide,bw (wJ n (c / 4) "z" (by decide +kernel) nz 1 (by decide) (by decide)) ?_⟩;rintro _ ⟨b,rfl,hb⟩
 obtain ⟨m,em,hm⟩:∃ m:Str,atI [D.str "c",D.str "n"] (if c % 4 = 1 then 1 else 0) = some (.str m)/\(m = "c"\/m = "n"):=by
  split
  . exact ⟨"n",rfl,.inr rfl⟩
  . exact ⟨"c",rfl,.inl rfl⟩
 have o2:0<=c / 32 % 2/\c / 32 % 2 < 2:=by lia
 have nN:∀ x:Str,nm ((("n":Str))++x):=fun x=>qd ⟨110,[],rfl,by decide,by decide⟩;exact ⟨by decide,by decide,kg (fun _=>⟨by decide,⟨by decide,by decide⟩,by decide,by decide,_,em,⟨by decide,by decide⟩,by decide,by decide,by decide,_,_,m,_,_,rfl,nN "0",nN "1",hm,o2⟩) fun _=>⟨⟨by decide,by decide⟩,by decide,by decide,_,em,⟨by decide,by decide⟩,by decide,by decide,by decide,a,b,m,_,_,rfl,ha,hb,hm,o2⟩⟩
theorem Hk (ds:List D) (lo hi:Option Int):(cutD ds lo hi).length<=ds.length:=by
 unfold cutD;rw [cF,gK]
 lia
theorem MQ (ds:List D):(cutD ds (some 23) (some 35)).length<=12:=by
 unfold cutD;rw [cF];simp only [HT.sIx]
 lia
noncomputable def Md (xs so:List Str) (l:List It) (t:T):Prop:=(∀ x∈xs,nm x)/\xs.length = 6/\(∀ x∈so,x∈xs)/\so.length = 5/\(∀ p∈l,Go xs p.2)/\l.length<=14/\okQ xs t/\ht t<=19
theorem Qm.cut {xs:List Str} {m:Nat} {s t:T} {A:F} (hA:Go xs A) (g:Qm xs m s) (h:Qm xs m t):Qm xs (m+1) (.cut A s t) :=
 ⟨⟨⟨hA,g.1.1,h.1.1⟩,g.1.2,h.1.2⟩,by have:=h.2;have:=g.2;simp only [ht];lia⟩
theorem Jl (n:Nat) (ns:List Int):fh Gs gls (n+30) 38 [.lst (ns.map .int)] fun D=>∃ xs so l t,D = .tup [.lst (l.map itD),eT t,.lst (so.map .str)]/\Md xs so l t:=by
 have ss:=s64;refine aL gJ rfl rfl rfl ?_;simp only [gJ,init,SI,Nat.reduceAdd,Nat.reduceSub];refine eE [.lst (ns.map .int)] (by kernel_rfl) (bw (Jk (n+27) ns) ?_);rintro _ ⟨a,b,m,fam,o,rfl,ha,hb,hm,ho⟩;refine ⟨_,rfl,?_⟩;refine fY (R:=fun δ=>∃ c:Int,δ = [.val (.lst (ns.map .int)),.val (.lst [.str a,.str b]),.val (.tup [.int fam,.str m,.int o]),.val (.int c),.no,.no,.no,.no,.no,.no]) 1 _ _ ?_ ?_
 . simp only [iz,cD,List.zip_nil_left,jc,List.foldl,List.set,SI,↓WS,↓WC,WI,↓reduceIte];refine bw (pR (n+28) ns 0 (by decide) (by decide)) ?_;rintro _ ⟨c,rfl⟩;simp only [↓WS,↓WC,WI,↓reduceIte];exact ⟨⟨by decide,by decide⟩,_,rfl⟩
 rintro δ ⟨c,rfl⟩;have ml:m.length = 1:=by rcases hm with rfl | rfl<;>decide +kernel
 have mn:∀ x:Str,nm (m++x):=fun x=>qd (hm.elim (fun e=>e▸⟨99,[],rfl,by decide,by decide⟩) fun e=>e▸⟨110,[],rfl,by decide,by decide⟩);generalize hxs:[a,b,m++("2":Str),m++("3":Str),m++("4":Str),("n0":Str)] = xs
 have vx:∀ x∈xs,nm x:=by
  subst hxs;simp only [cG,aQ,false_implies,implies_true,and_true];exact ⟨ha,hb,mn _,mn _,mn _,qd (a:="n") (b:="0") ⟨110,[],rfl,by decide,by decide⟩⟩
 have own:∀ j:Nat,2<=j->j < 5->m++((toString (j:Int):String):Str)∈xs:=fun j j2 j5=>by
  subst hxs;rcases (show j = 2\/j = 3\/j = 4 by lia) with rfl | rfl | rfl
  . rw [show ((toString ((2:Nat):Int):String):Str) = "2" by decide +kernel];simp
  . rw [show ((toString ((3:Nat):Int):String):Str) = "3" by decide +kernel];simp
  . rw [show ((toString ((4:Nat):Int):String):Str) = "4" by decide +kernel];simp
 obtain ⟨k,ek,k3⟩:∃ k:Nat,2+(if decide (c / 4 % 4 = 1) = true then 1 else 0:Int) = (k:Int)/\k<=3:=by
  split
  . exact ⟨3,rfl,by decide⟩
  . exact ⟨2,rfl,by decide⟩
 have wp:=CK (xs:=xs) own (by lia) ns fam o ho k (n+(4 - k)) 1 [a,b] k3 (aB 2) (by show 2+k<=5;lia) (by subst hxs;simp) (by decide) (by rcases (show k = 0\/k = 1\/k = 2\/k = 3 by lia) with rfl | rfl | rfl | rfl<;>decide);rw [show n+(4 - k)+k+25 = n+29 by lia,<- ek] at wp;refine eE [.lst (ns.map .int),.int 1,.int (2+(if decide (c / 4 % 4 = 1) = true then 1 else 0:Int)),.lst [.str a,.str b],.tup [.int fam,.str m,.int o]] (by kernel_rfl) (bw wp ?_);rintro _ ⟨fs,ws,rfl,hP⟩;replace hP:=hP.up k3;refine ⟨_,rfl,?_⟩;obtain ⟨f0,f1,f2,t0,t1,t2,t3,t4,t5,t6,t7,t8,rfl,rfl,H,W⟩:=hP.out;simp only [cG,aQ,false_implies,implies_true,and_true] at H W;generalize hso:[a,b,m++("2":Str),m++("3":Str),("n0":Str)] = so;have hs:∀ x∈so,x∈xs:=by subst hso hxs;intro x hx;simp only [aC] at hx ⊢;rcases hx with h | h | h | h | h | h<;>simp only [h,true_or,or_true]
 have sl:so.length = 5:=by subst hso;rfl
 generalize eP4:D.lst ([f0,f1,f2].map enc) = P4;generalize eP5:D.lst ([[t0,t1,t2],[t3,t4,t5],[t6,t7,t8]].map fun r=>.lst (r.map eT)) = P5;generalize eP7:D.lst (so.map D.str) = P7;generalize eP0:D.lst (ns.map D.int) = P0;generalize eP1:D.lst [D.str a,D.str b] = P1;refine bB 2 [.val P0,.val P1,.val (.tup [.int fam,.str m,.int o]),.val (.int c),.val P4,.val P5,.own [itD (true,f0),itD (false,f2)],.val P7,.no,.no] (by subst eP4 eP5 eP7 eP1 hso;rcases hm with rfl | rfl<;>kernel_rfl) ?_;refine fY (R:=fun δ=>∃ (l:List It) (s8:Sl),δ = [.val P0,.val P1,.val (.tup [.int fam,.str m,.int o]),.val (.int c),.val P4,.val P5,.own (l.map itD),.val P7,s8,.no]/\(∀ p∈l,Go xs p.2)/\l.length<=14) 1 _ _ ?_ ?_
 . subst eP0;simp only [cM,iz,↓se,SI,↓WS,↓WC,WI,↓reduceIte];generalize eP0:D.lst (ns.map D.int) = P0;refine kq (fun zs δ=>∃ (l:List It) (s8:Sl),δ = [.val P0,.val P1,.val (.tup [.int fam,.str m,.int o]),.val (.int c),.val P4,.val P5,.own (l.map itD),.val P7,s8,.no]/\(∀ p∈l,Go xs p.2)/\l.length+zs.length<=14/\∀ z∈zs,∃ i,z = .int i) ?_ ?_ _ _ ⟨[(true,f0),(false,f2)],_,rfl,?_,?_,fun z hz=>?_⟩
   . rintro z zs δ ⟨l,s8,rfl,hl,hll,hz⟩;obtain ⟨i,rfl⟩:=hz z ay;rw [ak] at hll
     obtain ⟨L,eL⟩:∃ L:Bool,atI [D.str "left",D.str "right"] (i % 2) = some (.str (sd L)):=by
      rcases (show i % 2 = 0\/i % 2 = 1 by lia) with e | e<;>rw [e]
      . exact ⟨true,rfl⟩
      . exact ⟨false,rfl⟩
     simp only [ak,ax,ao,SI,↓WS,↓WC,WI,↓reduceIte];refine ⟨by decide,by decide,_,eL,⟨by decide,by decide⟩,?_⟩;subst eP7;refine bw (kx 1 (n+25) 0 (i / 2) fam so (by lia) (by lia)) ?_;rintro _ ⟨A,rfl,hA⟩;exact ⟨by decide,by lia,l++[(L,A)],_,by rw [aY];rfl,fun p hp=>(aP.mp hp).elim (hl p) fun z=>by rw [bu.mp z];exact (St.go hs hA).1,by rw [aj,aV];lia,fun z h=>hz z (au _ h)⟩
   . rintro δ ⟨l,s8,rfl,hl,hll,_⟩;exact ⟨.nx _,rfl,l,s8,rfl,hl,by simpa using hll⟩
   . intro p hp;simp only [aC,aQ,or_false] at hp;rcases hp with rfl | rfl
     . exact H.1.go (by decide)
     . exact H.2.2.go (by decide)
   . have:=MQ (ns.map D.int);show 2+_<=14
     lia
   . obtain ⟨i,_,rfl⟩:=bx.mp (tX hz);exact ⟨i,rfl⟩
 rintro δ ⟨l,s8,rfl,hl,l14⟩;obtain ⟨g0,g1,g2⟩:=H;obtain ⟨w0,w1,w2,w3,w4,w5,w6,w7,w8⟩:=W;have g0:=g0.go (by decide);have g1:=g1.go (by decide)
 have fin:∀ t,Qm xs 19 t->∃ xs so' l' t',D.tup [.lst (l.map itD),eT t,P7] = .tup [.lst (l'.map itD),eT t',.lst (so'.map .str)]/\Md xs so' l' t':=fun t h=>by
  subst eP7;exact ⟨xs,so,l,t,rfl,vx,by subst hxs;rfl,hs,sl,hl,l14,h⟩
 subst eP4 eP5;refine dZ (decide (c % 4 = 0)) (by kernel_rfl) (fun _=>cH (d:=.tup [.lst (l.map itD),eT t2,P7]) (by kernel_rfl) (fin t2 (w2.up (by decide)))) fun _=>?_
 have go:∀ t,Qm xs 19 t->decide (c % 4 = 3) = false->wSs ⟨PP.run Gs gls (n+29),gls,hfs Gs⟩ (cM 9 gJ.body) [.val P0,.val P1,.val (.tup [.int fam,.str m,.int o]),.val (.int c),.val (.lst ([f0,f1,f2].map enc)),.val (.lst ([[t0,t1,t2],[t3,t4,t5],[t6,t7,t8]].map fun r:List T=>D.lst (r.map eT))),.own (l.map itD),.val P7,s8,.val (eT t)] (retS fun D=>∃ xs so l t,D = .tup [.lst (l.map itD),eT t,.lst (so.map .str)]/\Md xs so l t):=fun t h n3 =>
  dZ (decide (c % 4 = 3)) (by kernel_rfl) (fun e=>by rw [n3] at e;cases e) fun _=>cH (d:=.tup [.lst (l.map itD),eT t,P7]) (by kernel_rfl) (fin t h)
 refine bB 1 [.val P0,.val P1,.val (.tup [.int fam,.str m,.int o]),.val (.int c),.val (.lst ([f0,f1,f2].map enc)),.val (.lst ([[t0,t1,t2],[t3,t4,t5],[t6,t7,t8]].map fun r:List T=>D.lst (r.map eT))),.own (l.map itD),.val P7,s8,.val (eT (.cut f1 t1 t5))] (by kernel_rfl) ?_;refine dZ (decide (c % 4 = 2)) (by kernel_rfl) (fun e2=>bB 1 [.val P0,.val P1,.val (.tup [.int fam,.str m,.int o]),.val (.int c),.val (.lst ([f0,f1,f2].map enc)),.val (.lst ([[t0,t1,t2],[t3,t4,t5],[t6,t7,t8]].map fun r:List T=>D.lst (r.map eT))),.own (l.map itD),.val P7,s8,.val (eT (.cut f1 t1 (.cut f0 t3 t2)))] (by kernel_rfl) (go _ (Qm.cut g1 (w1.up (by decide)) (.cut g0 w3 w2)) (decide_eq_false (by have:=of_decide_eq_true e2;lia)))) fun _=>?_
 cases e3:decide (c % 4 = 3) with
 | false=>exact go _ ((Qm.cut g1 w1 w5).up (by decide)) e3
 | true=>exact dZ (decide (c % 4 = 3)) (by kernel_rfl) (fun _=>cH (d:=.tup [.lst (l.map itD),eT (.cut f0 (.cut f1 t1 t3) t2),P7]) (by kernel_rfl) (fin _ (Qm.cut g0 (.cut g1 w1 w3) (w2.up (by decide))))) fun e=>by rw [e3] at e;cases e
theorem main (ns:List Int) (_:ns.length<=63):PP.run Gs gls 200 43 [.lst (ns.map .int)] = some (.bl true):=by
 apply aX;refine aL d_law rfl rfl rfl ?_;simp only [d_law,init,SI,Nat.reduceAdd,Nat.reduceSub];simp only [ak,ax,SI,↓WS,↓WC,WI,↓reduceIte];refine bw (Jl 169 ns) ?_;rintro _ ⟨xs,so,l,t,rfl,vx,xl,hs,sl,hl,l14,hQ,h19⟩;simp only [ak,ax,SI,↓WS,↓WC,WI,↓reduceIte];refine bw (pR 198 ns 35 (by decide) (by decide)) ?_;rintro _ ⟨p,rfl⟩;refine bw (pR 198 ns 36 (by decide) (by decide)) ?_;rintro _ ⟨e,rfl⟩;have e0:=cg e (show (10:Int)≠0 by decide);have e1:=bI e (show (0:Int) < 10 by decide);obtain ⟨l',el,hl'⟩:=sY (l:=l) (xs:=cutD (l.map itD) none (some 2)) fun y hy=>tX hy
 have ll':l'.length<=14:=by
  have:=Hk (l.map itD) none (some 2);rw [el,ao,ao] at this
  lia
 have t1:=wH vx (by lia) 198 l t (by lia) hQ.1 hl (by lia);have t2:=fun u (ou:okT xs u) (hu:ht u<=20)=>wH vx (by lia) 198 l u (by lia) ou hl (by lia);have t3:=wH vx (by lia) 198 l' t (by lia) hQ.1 (fun p hp=>hl p (hl' p hp)) (by lia);simp only [↓se,el,↓WS,↓WC,WI,↓reduceIte];have fin:∀ u (ou:okT xs u) (hu:ht u<=20),fh Gs gls 199 42 [.lst (l.map itD),eT t] fun z=>∃ k,z = .bl k/\if k = true then fh Gs gls 199 42 [.lst (l.map itD),eT u] fun z=>∃ k,z = .bl k/\if k = true then fh Gs gls 199 42 [.lst (l'.map itD),eT t] fun z=>z = .bl true else D.bl false = .bl true else D.bl false = .bl true:=fun u ou hu=>(aK t1).mpr ⟨true,rfl,hZ ((aK (t2 u ou hu)).mpr ⟨true,rfl,hZ ((aK t3).mpr rfl)⟩)⟩
 refine ⟨by decide,kg (fun _=>⟨⟨by decide,by decide⟩,by decide,⟨by decide,by decide⟩,bw (uR (e % 10) (e / 10) e0 e1 hs sl 19 173 t (p / 5) h19 hQ) ?_⟩) fun _=>fin t hQ.1 (by lia)⟩;rintro _ ⟨u,rfl,ou,hu⟩;exact fin u ou (by lia)
theorem NB:EL L0:=⟨rfl,rfl,rfl,by decide +kernel,by decide +kernel,by decide +kernel,by decide +kernel,by decide +kernel,fun _ _ _ _ us hl=>qr rfl rfl rfl rfl rfl rfl (by decide +kernel) hl⟩
theorem NC:Ln Gs Gd gns 44 L0:=⟨NB,d_lam0,(.ite (.and (.call 1 (.cons (.var 0) .nil)) (.cmp .eq (.blt .toInt (.cons (.var 0) .nil)) (.var 1))) (.var 2) (.var 0)),rfl,rfl,rfl,rfl,rfl,rfl,by decide +kernel⟩
theorem mem_ts {t:av × Str} (h:t∈Tbs.ts):t = (49,("put_in.<locals>.<lambda>":Str)):=by
 have h:t∈[(49,("put_in.<locals>.<lambda>":Str))]:=h;simpa only [aC,aQ,or_false] using h
theorem lams_ok:∀ p∈Tbs.lams,Ln Gs Gd gns p.1 p.2:=fun p h=>by
 have h:p∈([(44,L0)]:List (Nat × Lam)):=h;simp only [aC,aQ,or_false] at h;rcases h with rfl
 . exact NC
theorem own_5 {C:Prop} {K:PySem.W.Frag} {h:bJ} {mg:Str->Option af} {f cc:av} {od an:Option av} {sl:Array (Option af)} {oc kV dc pm ct:af} (X:K.In h) (G:h.Ns mainGlobals mg) (a:PySem.W.nsIn K mainGlobals "put_in" = some (some (.ref f))) (l:K.lookup f = some ⟨oc,od,.func (PySem.W.fnOf "put_in" "put_in" (gz (top 8)) (eA (top 8)) (bA (top 8)) .none kV dc pm an (.ref cc) ct),sl⟩) (c:PySem.W.codeIn K (.ref cc) "put_in" = true) (k:PySem.W.keepIn K (.ref f) = true) (h5:PySem.W.codeHdIn K cc 49 = true) (t5:K.lookup 49 = none) (q:(∃ st a fdd,Dn K mg (oG Gd) gns jv st a fdd)->(K.lookup 49 = none/\∃ c,PySem.W.codeHdIn K c 49 = true)->C):C:=by
 have F:=Ed (st:=top 8) l c k;have o:okD jv (gz (top 8)) (bA (top 8)) = true:=by decide +kernel
 exact q ⟨_,_,_,F,PySem.W.mg_of X G a,Dz o,.inr (.inl ⟨{ f:=4,es:=(.cons (.var 0) (.cons (.int 0) .nil)),k:=44,caps:=[1],x:="with_terms",ps:=dn.ps,y:=(rxs (top 8)).headD (.Constant .none 0 ⟨0,0,0,0⟩),ys:=(rxs (top 8)).dropLast.tail,p:=(rps (top 8)).1,lp:=NF (rlm (top 8)),pos:=(rps (top 8)).2.1,rp:=(rps (top 8)).2.2,L:=L0,c:=cc,P:=49,cells:=fun l=>[l+1],body:=rfl,text:=rfl,lam:=rfl,args:=by decide +kernel,npk:=rfl,fn:=rfl,gl:=by decide +kernel,nd:=by decide +kernel,dft:=fun _=>rfl,cl:=fun _ _ _=>rfl,cp:=fun X l a cd hN hE=>⟨_,_,_,_,rfl,rfl,by rw [hN];rfl,by rw [hE];rfl,by rw [hE];rfl,⟨rfl,rfl⟩⟩,code:=rfl,hd:=h5,tb:=by decide +kernel,un:=by decide +kernel,ql:=by decide +kernel }⟩),DA F o⟩ ⟨t5,_,h5⟩
end P1
end
section
theorem PySem.W.Fast.te6324959795294436576:True:=trivial
open PySem PySem.W PyProof.Rows
set_option maxRecDepth 100000 in
set_option maxHeartbeats 0 in
theorem PySem.Challenge.cw_cutless_k11_fits_holds : PySem.Challenge.rw_cutless_k11_fits.Holds := by
 w_on
 refine PySem.W.holds_law (by decide +kernel) fun said=>?_
 k_head;(case hw=>w_witness2)
 k_fill
 refine PP.walk_run (l:=PySem.Challenge.rw_cutless_k11_fits) (G:=P1.Gs) (Gd:=P1.Gd) (gl:=P1.gls) (gn:=P1.gns) (i:=43) (fd:=P1.d_law) (x:="_law_script") P1.main rfl rfl rfl rfl (fun w h Y=>⟨PySem.W.km_in_of Y,fun t ht=>PySem.W.km_tabs_of Y t.1 (by rcases P1.mem_ts ht with rfl<;>decide)⟩) rfl fun w mg h KX G=>?_;apply P1.own_5 KX G;k_is;k_is;k_is;k_is;kernel_rfl;kernel_rfl;intro o5 t5;refine ⟨PP.top_mk (tp:=P1.top) (is:=P1.pls) KX G ?H (PP.sub_app (b:=[P1.d_lam0])) (by decide +kernel) P1.lams_ok ?B ?GL (fun n l h=>by cases h),?T⟩
 case T =>
  intro t ht;rcases P1.mem_ts ht with rfl
  . exact t5
 case H =>
  iterate 5 (apply PP.Hds.cons;k_is;k_is;k_is;k_is;decide +kernel)
  refine .own o5 ?_
  iterate 38 (apply PP.Hds.cons;k_is;k_is;k_is;k_is;decide +kernel)
  exact .nil
 case B=>kernel_rfl
 case GL=>repeat' first | exact .nil | exact .str | exact .int | exact Nat.le_of_ble_eq_true rfl | (apply PP.InK.tup;k_is) | (apply PP.Gls.cons;k_is) | apply PP.InKs.cons
end
