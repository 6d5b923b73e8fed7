import PyProof.Rows.All
import Wide.All
import OpenK.AllK
import Wide.FinOn
import Lean
import PyProof.EqAt
import PyProof.EqKinds
import PyProof.TupleCall
import KE.KSortAsk
import KE.KIntText
import KE.KMinBuiltin
import PyProof.MeetsStr2
import KE.KTabLook
import PySem.Challenge.RW_cutless_k10_a_rule
open And renaming intro→av
open Array renaming length_toList→aZ,getElem?_eq_getElem→bT,getElem?_eq_some_iff→dD,forIn_toList→jc,getD→kF,getElem?_setIfInBounds_self_of_lt→lO,toList_push→oW,getElem?_setIfInBounds_ne→pK,toList_filterMap→xX,getElem?_eq_none→xY,mem_of_getElem?→ye,toList_append→Bc,all_toList→Hn,replicate→Hx
open Array.Perm renaming refl→cM
open Bool renaming and_eq_true→aa,false_ne_true→au,false_eq_true→aO,and_self→cB,or_eq_true→cD,not_true→dA,eq_iff_iff→dO,eq_false_iff→dQ,true_and→iz,true_or→iX,and_true→nW,or_true→pI,not_eq_true'→pJ,not_false→tY,or_false→vH
open Classical renaming byContradiction→fu,choose_spec→tW
open False renaming elim→cI
open ForInStep renaming yield→jP
open Iff renaming rfl→cH
open Int renaming emod_lt_of_pos→bp,emod_nonneg→bF,toNat_natCast→jO,eq_ofNat_of_zero_le→yd
open List renaming length_map→aj,mem_cons_self→ao,mem_cons_of_mem→aq,length_append→ar,getElem?_eq_getElem→ax,length_cons→ay,length_nil→aB,replicate→aC,mem_cons→aD,getElem?_eq_some_iff→aF,size_toArray→aH,getElem?_append_left→aL,map_cons→aP,getElem?_append_right→aS,mem_map→aU,mem_append_right→aV,getElem?_map→bj,mem_append→br,all_eq_true→bx,mem_of_getElem?→bB,range→bD,map_append→bE,length_take→bG,getElem?_set_ne→bL,length_singleton→bP,nodup_cons→bQ,mem_singleton→bU,append_nil→bX,lookup_cons→bY,length_set→cw,not_mem_nil→cz,length_replicate→cA,nil_append→cC,mem_append_left→cJ,getElem?_set_self→cQ,getElem?_eq_none→cS,zip_cons_cons→cX,getElem?_take_of_lt→cY,getElem?_replicate→dn,filterMap_cons→dw,foldl_cons→dN,getElem?_of_mem→dP,filter_eq_self→eA,length_drop→eF,any_eq_true→eH,forIn_cons→ff,length_filter_le→fi,mem_iff_getElem→fI,getD_eq_getElem?_getD→fJ,toArray→fO,map_nil→fQ,cons_append→fR,drop_eq_getElem_cons→fX,all_cons→gq,length_eq_zero_iff→gF,nodup_append→gJ,mem_range→gK,length_range→gL,take_append_drop→ib,of_mem_zip→iL,mem_map_of_mem→iW,pairwise_iff_getElem→jw,append_assoc→jI,filterMap_cons_some→jM,any_cons→jN,isEmpty_nil→kx,getElem_mem→ky,getElem?_cons_succ→kz,mem_filter→lD,mem_of_mem_drop→lZ,getD→mC,replicate_succ→mG,map_congr_left→mH,zip_nil_right→nY,mem_filterMap→nZ,pairwise_map→pD,map_map→pE,flatMap_cons→pF,drop_length→qt,length_eraseIdx_of_lt→tV,length_erase_of_mem→vD,dropLast→vE,take→xT,filter_cons_of_pos→xU,filter_cons_of_neg→xV,length_pos_of_mem→xZ,all_nil→yc,pairwise_append→AV,mem_of_mem_take→AW,mem_erase_of_ne→AX,length→AY,dropLast_concat→AZ,take_succ_cons→CS,length_pos_iff→CT,eraseDups_cons→CU,drop_succ_cons→CV,findIdx?_cons→CZ,filter_append→Dc,foldl_append→Hl,zipIdx_cons→Hr,take_length→Hs,nodup_range→Ht,getElem_inj→Hu,Perm→Hv,zipIdx_nil→JM,take_left'→JN,length_zip→JO
open List.Perm renaming eq_of_pairwise→rW
open Nat renaming le_refl→aA,ne_of_lt→aJ,lt_of_lt_of_le→aW,le_trans→aX,lt_succ_of_lt→bw,lt_of_le_of_lt→bV,zero_le→cu,lt_irrefl→cy,le_of_lt_succ→dq,lt_or_ge→dS,lt_succ_self→eL,pow_succ→eX,ne_of_gt→eY,le_add_right→fW,add_le_add_left→gh,min_le_right→iw,le_of_lt→jb,mod_lt→ju,le_succ→jL,succ_pos→lB,max_lt→lC,lt_or_eq_of_le→oT,eq_zero_or_pos→oU,add_right_comm→oV,lt_trichotomy→pV,le_max_right→rV,min_le_left→sy,le_max_left→sA,add_assoc→xS,zero_add→zk,sub_self→zm,min_self→zo,pow_pos→CN,pow_le_pow_right→CO,log2_lt→CP,add_le_add_right→CQ,le_min→Hk,le_succ_of_le→Hq,not_lt_zero→Kg,min_eq_left→Kh
open Option renaming bind_eq_some_iff→ae,bind_eq_bind→ah,map_eq_some_iff→aG,map_some→dg,isNone_iff_eq_none→dF,pure_def→dM,bind_some→fH,isSome_iff_exists→gb,getD_some→CW,getD_none→CY
open Option.some renaming inj→aY
open PyProof.Rows renaming callWith_type1→hV,listUpdate_at→lz,slot_tuple_getitem→lR,AllBare→mE,SortKind→oR,assignInOrder_cons→rS,get?_update_seq→xO,entry_list_sort→xP,slot_list_sort→ze,args_list_sort→zh,subscriptTail_builtinR→Hb,plain_sorted→He,entry_sorted→Hf,args_sorted1→Hi,IntsAre→Hm,seqEpoch_at→JJ,kind_sorted→JK,bubble_perm→JL,IsTup→JP,assignInOrder_nil→NA
open PyProof.Rows.F renaming plain_set_update_loop→cW,entry_set_update_loop→jK
open PyProof.Rows.IsTup renaming new→vF
open PySem renaming wpAny_bind→ab,Value→af,Shared→ai,wpAny_pure→ak,Addr→aw,Expr→aI,Program→aR,Around→ba,World→bf,wpAny_newObj_type→bt,Heap→bK,wpAny_call_entry→bM,wpAny_holding→bO,sizeLine_eq→bR,wpAny_setState_of→cm,wpAny_field→cN,wpAny_callSpecial?_slot→cO,SetTable→cR,Stmt→de,wpAny_seqItems→dv,wpAny_askSetting→dJ,Scope→en,FuncData→eB,Builtin→eQ,wpAny_setField→eW,wpAny_standAt→fG,wpAny_truthy_bool→fN,wpAny_of_eq→gf,wpAny_setField_rec→gO,wpAny_rule→gQ,wpAny_Call_Name_kw→gR,wpAny_pyIter_list→ir,codeAny_mono→iu,wpAny_mono→iV,wpAny_newFunctionEnv→iZ,wpAny_specialOf→jq,wpAny_passesOwn→jr,codeAny_builtin→jt,Keyword→jJ,NameKind→ku,wpAny_storeSet_of→kG,fits_of_scanBound→kH,wpAny_comprehension_free→lx,plainId_quiet→ly,wpAny_isInstance→lQ,GenState→lU,wpAny_loadPart'→mF,wpAny_updateSeq_pair→oQ,Arguments→pL,wpAny_setEntries_of→pS,wpAny_onRaise→qo,wpAny_newList→qp,wpAny_attempt→qr,Comprehension→qu,Result→rT,IsPart→rX,wpAny_typeOf→sk,wpAny_setEpoch_of→sr,noFill_tuple_add→vx,IsPair→vA,codeAny_of_tree→xQ,wpAny_call→zc,typeIs_str→zd,isSubtype_type→zf,Operator→zj,seq_tuple_add→CI,filterMap_getElem?_range→CJ,IsZip→De,seqIndex_neg→Hd,concat_meets→Hg,codeAny_compStart_list→Hh,builtinLookup_eq_fast→Ho,wpAny_letGo→JH,seqIndex_of→JI,wpAny_pyIter_tuple→Nu,wpAny_Name→Nv,wpAny_pyIter_slot→Nw,wpAny_assign_Name→Nx,wpAny_Return_some→Ny,eqIsQuiet_byValue→Nz
open PySem.Around renaming under_plainId→ic,frames_deeper→yf
open PySem.Builtin.Frozenset renaming addrOf→mD
open PySem.Builtin.Int renaming intBits→tX
open PySem.Builtin.List renaming listExtendWith→nV,listTooLong→pG,listSameRef→pH
open PySem.Builtin.Slice renaming slicePlaces→fh,sliceAdjust→iy,sliceApplied→nU
open PySem.Builtin.SmallTypes renaming ownedTupleIsFree→cU,ownedTupleHandOut→jn
open PySem.Builtin.Str renaming occurrences→qv,subAt→vG
open PySem.Builtin.Tuple renaming tupleHashOf→cj,tupleExact→ft,tupleItemsOf→nS
open PySem.Calls renaming call_function_entry→jv,Name_function_global→sC,callWith_builtin→xW
open PySem.Heap renaming get?_push_of_some→ag,lt_size→az,get?_push_size→aE,size_push→bC,SameBut→dy,get?_update_other→eP,get?_update_self→fj,get?_none_of_le→Ba,ExtBut→Bb
open PySem.Heap.SameBut renaming update→bJ,refl→vB
open PySem.NameKind renaming free→bW,cell→lT
open PySem.Obj renaming mapSeq→cq,mapFields→kr,putSet→lA,data_mapFields→Hj
open PySem.PassesOwn renaming never→AU
open PySem.SeqAt.EqAt renaming same→Hw
open PySem.SetTable renaming grown→aM,sizeAbove→aQ,below→cV,insertAt→ja,fill→rY,tooFull→AS,relaid→CM
open PySem.SetTable.below renaming go→kI
open PySem.Str renaming ofString→fV
open PySem.Unicode renaming isDigit→da
open PySem.Value renaming none→cn,ref→cT,bool→kE,type→sv,isStrOf→vz,int→vC,notImplemented→zi
open PySem.W.Looks renaming of_pure→jH
open PySem.Walks renaming list→CK
open PySem.pickOrder renaming go→su
open Subtype renaming val→xR
open Sum renaming inr→pT,inl→pU
open True renaming intro→nX
set_option Elab.async false
set_option linter.all false
set_option genInjectivity false
set_option genSizeOf false
set_option maxRecDepth 100000
set_option maxHeartbeats 4000000
section
-- CHANGE: your row's module here,as the last of these rows
namespace L2
open PySem PySem.Spec PyProof.Rows
abbrev Key:=Sum Int Str
noncomputable def JY:Key->af->Bool
 | .inl k,v=>Value.isInt k v
 | .inr x,v=>vz x v
noncomputable def PY (w:bf):Key->Int
 | .inl k=>hashInt k
 | .inr x=>hashStr w x
theorem dG:∀ {k:Key} {v:af},JY k v = true->(∃ i t,k = pU i/\v = vC i t)\/(∃ x t,k = pT x/\v = Value.str x t)
 | .inl i,v,h=>by
   obtain ⟨t,e⟩:=Value.isInt_shape (k:=i) (v:=v) h
   exact .inl ⟨i,t,rfl,e⟩
 | .inr x,v,h=>by
   obtain ⟨t,e⟩:=Value.isStrOf_shape (x:=x) (v:=v) h;exact .inr ⟨x,t,rfl,e⟩
theorem MH (a b:Int):decide ((pU a:Key) = pU b) = (a == b):=by
 by_cases e:a = b
 . subst e;simp
 . have h:¬ (pU a:Key) = pU b:=fun q=>e (Sum.inl.inj q);rw [decide_eq_false h];exact (beq_eq_false_iff_ne.mpr e).symm
theorem ME (a b:Str):decide ((pT a:Key) = pT b) = decide (a = b):=by
 by_cases e:a = b
 . subst e;simp
 . have h:¬ (pT a:Key) = pT b:=fun q=>e (Sum.inr.inj q);rw [decide_eq_false h,decide_eq_false e]
theorem MG (a:Int) (b:Str):decide ((pU a:Key) = pT b) = false:=decide_eq_false (fun q=>nomatch q)
theorem MF (a:Str) (b:Int):decide ((pT a:Key) = pU b) = false:=decide_eq_false (fun q=>nomatch q)
noncomputable def uK (prog:aR) (w:bf):PySem.KeyKind prog w Key where
 is:=JY
 hash:=PY w
 inj:=fun v a b ha hb=>by
  rcases dG ha with ⟨i,t,rfl,rfl⟩ | ⟨x,t,rfl,rfl⟩
  . rcases dG hb with ⟨j,u,rfl,e⟩ | ⟨y,u,rfl,e⟩
    . injection e with e1 _;rw [e1]
    . exact nomatch e
  . rcases dG hb with ⟨j,u,rfl,e⟩ | ⟨y,u,rfl,e⟩
    . exact nomatch e
    . injection e with e1 _;rw [e1]
 byValue:=fun k v h=>by
  rcases dG h with ⟨i,t,rfl,rfl⟩ | ⟨x,t,rfl,rfl⟩<;>rfl
 pyHash:=fun hv h=>by
  rcases dG hv with ⟨i,t,rfl,rfl⟩ | ⟨x,t,rfl,rfl⟩
  . exact wpAny_pyHash_int h
  . exact wpAny_pyHash_str h
 eqBool:=fun hu hv h=>by
  rcases dG hu with ⟨i,t,rfl,rfl⟩ | ⟨x,t,rfl,rfl⟩
  . rcases dG hv with ⟨j,u,rfl,rfl⟩ | ⟨y,u,rfl,rfl⟩
    . rw [MH] at h;exact wpAny_eqBool_int h
    . rw [MG] at h;exact SeqAt.EqAt.int_str i t y u _ _ _ _ h
  . rcases dG hv with ⟨j,u,rfl,rfl⟩ | ⟨y,u,rfl,rfl⟩
    . rw [MF] at h;exact SeqAt.EqAt.str_int x t j u _ _ _ _ h
    . rw [ME] at h;exact wpAny_eqBool_str h
 «strs»:=fun k x t v h=>by
  rcases dG h with ⟨i,u,rfl,e⟩ | ⟨y,u,rfl,e⟩
  . exact nomatch e
  . injection e with e1 _;subst e1;cases v<;>rfl
end L2
namespace L2
open PySem PySem.Spec PyProof.Rows
set_option genInjectivity true in
inductive V where
 | non | bl (b:Bool) | int (i:Int) | str (x:Str) | byt (b:Array UInt8) | flt (b:UInt64) | ref (a:aw) | ty (n:String)
 deriving DecidableEq
noncomputable def RelV:V->af->Prop
 | .non,u=>u = cn
 | .bl b,u=>u = kE b
 | .int i,u=>∃ t,u = vC i t
 | .str x,u=>∃ t,u = Value.str x t
 | .byt b,u=>∃ t,u = Value.bytes b t
 | .flt b,u=>∃ t,u = Value.float b t
 | .ref a,u=>u = cT a
 | .ty n,u=>u = sv n
abbrev Vals:List V->List af->Prop:=Paired RelV
theorem Vals.length {xs:List V} {us:List af} (r:Vals xs us):xs.length = us.length:=Paired.length r
theorem Vals.get:∀ {xs:List V} {us:List af} {i:Nat} {x:V},Vals xs us->xs[i]? = some x->∃ u,us[i]? = some u/\RelV x u
 | _,_,_,_,.nil,e=>by simp at e
 | _,_,0,_,.cons r _,e=>by simp at e;subst e;exact ⟨_,rfl,r⟩
 | _,_,i+1,x,.cons _ t,e=>by
   obtain ⟨u,h1,h2⟩:=Vals.get (i:=i) (x:=x) t (by simpa using e);exact ⟨u,by simpa using h1,h2⟩
theorem Vals.set {x:V} {u:af} (r:RelV x u):∀ {xs:List V} {us:List af} (i:Nat),Vals xs us->Vals (xs.set i x) (us.set i u)
 | _,_,_,.nil=>.nil
 | _,_,0,.cons _ t=>.cons r t
 | _,_,i+1,.cons q t=>.cons q (Vals.set r i t)
theorem Vals.append:∀ {xs ys:List V} {us ws:List af},Vals xs us->Vals ys ws->Vals (xs++ys) (us++ws)
 | _,_,_,_,.nil,s=>s
 | _,_,_,_,.cons r t,s=>.cons r (Vals.append t s)
theorem Vals.take:∀ {xs:List V} {us:List af} (n:Nat),Vals xs us->Vals (xs.take n) (us.take n)
 | _,_,0,_=>.nil
 | _,_,_+1,.nil=>.nil
 | _,_,n+1,.cons r t=>.cons r (Vals.take n t)
theorem Vals.drop:∀ {xs:List V} {us:List af} (n:Nat),Vals xs us->Vals (xs.drop n) (us.drop n)
 | _,_,0,r=>r
 | _,_,_+1,.nil=>.nil
 | _,_,n+1,.cons _ t=>Vals.drop n t
noncomputable def iq:Option V->Option af->Prop
 | some v,some u=>RelV v u
 | none,none=>True
 | _,_=>False
noncomputable def KV {κ:Type}:List (κ × V)->List (κ × af)->Prop:=Paired fun (p:κ × V) (q:κ × af)=>p.1 = q.1/\RelV p.2 q.2
noncomputable def kV:Key->V
 | .inl i=>.int i
 | .inr x=>.str x
inductive HO where
 | lst (xs:List V)
 | tup (xs:List V)
 | dK (kvs:List (Key × V)) | dT (kvs:List (List Key × V))
 | set (S:Int->Bool) (n:Nat)
 | ins (C dx:aw) (fs:List (Str × V))
 | own (x:aw)
 | xd (fs:List (Str × V))
 | met (f x:aw)
 | rng (lo hi:Int)
 | frz (o:Obj) (u:HO)
 | tbl (ps:Array af)
 | ext (φ:bK->Prop)
abbrev Hp:=aw->Option HO
noncomputable def upd (H:Hp) (a:aw) (o:HO):Hp:=fun b=>if b = a then some o else H b
theorem bN {H:Hp} {a:aw} {o:HO}:upd H a o a = some o:=by unfold upd;rw [if_pos rfl]
theorem bA {H:Hp} {a b:aw} {o:HO} (h:b≠a):upd H a o b = H b:=by unfold upd;rw [if_neg h]
theorem gN {H:Hp} {a b:aw} {o:HO} (h:H a = some o) (h':H b = none):a≠b:=by
 intro e;subst e;rw [h] at h';cases h'
section
variable (P:aR) (w:bf)
noncomputable def fe (H:Hp) (h:bK) (a:aw):HO->Prop
 | .lst xs=>xs.length<=sizeLine/\∃ (its:List af) (n:Nat),Vals xs its/\h.get? a = some { cls:=.type "list",data:=.seq its.toArray n }
 | .tup xs=>xs.length<=sizeLine/\∃ its:List af,Vals xs its/\JP h a its.toArray
 | .dK kvs=>kvs.length<=sizeLine/\(a == sysModules) = false/\∃ vs,KV kvs vs/\h.DictOf (uK P w) a vs
 | .dT kvs=>kvs.length<=sizeLine/\(a == sysModules) = false/\∃ xs:List (List Key × aw × af),
    Paired (fun (p:List Key × V) (q:List Key × aw × af)=>p.1 = q.1/\H q.2.1 = some (.tup (p.1.map kV))/\RelV p.2 q.2.2) kvs xs /\
    ∃ o es ep,h.get? a = some o/\o.ExactDict/\o.data = .dict es ep/\es.toList = xs.map (entryOfKey (tupleKind (uK P w)))/\(xs.map (·.1)).Nodup
 | .set S n=>h.SetOf (intKind P w) a S n
 | .ins C dx fs=>H dx = some (.own a)/\fs.length<=1000/\dx≠a/\h.get? a = some (PySem.W.instObj C dx) /\
    ∃ mA,h.Ns1 dx mA/\(∀ f,iq (fs.lookup f) (mA f))/\PySem.Within mA (fs.map (·.1))
 | .own _=>∃ o,h.get? a = some o
 | .xd fs=>∃ mA,h.Ns1 a mA/\∀ f,iq (fs.lookup f) (mA f)
 | .rng lo hi=>∃ t u v,h.get? a = some { cls:=.type "range",data:=.fields #[.int lo t,.int hi u,.int 1 v] }
 | .frz o u=>h.get? a = some o/\fe H h a u
 | .tbl ps=>h.get? a = some { cls:=.none,data:=.fields ps }
 | .met f x=>h.get? a = some (PySem.W.methodObj (.ref f) (.ref x))
 | .ext φ=>φ h/\(∃ o,h.get? a = some o)/\∀ h1 h2:bK,φ h1->(∀ o,h1.get? a = some o->h2.get? a = some o)->φ h2
noncomputable def HOk (H:Hp) (h:bK):Prop:=∀ a o,H a = some o->fe P w H h a o
end
section
variable {P:aR} {w:bf} {H H':Hp} {h h':bK} {a:aw} {o:HO}
theorem fe.lt (x:fe P w H h a o):a < h.objs.size:=by
 cases o with
 | lst xs=>obtain ⟨_,_,_,_,e⟩:=x;exact az e
 | tup xs=>obtain ⟨_,_,_,p⟩:=x;exact p.lt
 | dK kvs=>obtain ⟨_,_,_,_,o,_,_,e,_⟩:=x;exact az e
 | dT kvs=>obtain ⟨_,_,_,_,o,_,_,e,_⟩:=x;exact az e
 | set S n=>obtain ⟨o,_,_,_,e,_⟩:=x;exact az e
 | ins C dx fs=>obtain ⟨_,_,_,e,_⟩:=x;exact az e
 | own y=>obtain ⟨_,e⟩:=x;exact az e
 | xd fs=>obtain ⟨_,⟨_,_,_,e,_⟩,_⟩:=x;exact az e
 | rng lo hi=>obtain ⟨_,_,_,e⟩:=x;exact az e
 | frz ob u=>obtain ⟨e,_⟩:=x;exact az e
 | tbl ps=>exact az (show h.get? a = some _ from x)
 | met f y=>exact az (show h.get? a = some _ from x)
 | ext φ=>obtain ⟨_,⟨_,e⟩,_⟩:=x;exact az e
theorem Paired.mapP {α β:Type} {F G:α->β->Prop}:∀ {l₁:List α} {l₂:List β},Paired F l₁ l₂->(∀ a b,F a b->G a b)->Paired G l₁ l₂
 | _,_,.nil,_=>.nil
 | _,_,.cons r t,f=>.cons (f _ _ r) (Paired.mapP t f)
theorem fe.stay (x:fe P w H h a o) (k:∀ b u,(b = a\/H b = some (.own a))->h.get? b = some u->h'.get? b = some u)
 (ho:∀ b,H b = some (.own a)->H' b = some (.own a)) (ht:∀ b xs,H b = some (.tup xs)->H' b = some (.tup xs)):fe P w H' h' a o:=by
 induction o with
 | lst xs=>obtain ⟨z,its,n,r,e⟩:=x;exact ⟨z,its,n,r,k _ _ (.inl rfl) e⟩
 | tup xs=>obtain ⟨z,its,r,ob,e,c⟩:=x;exact ⟨z,its,r,ob,k _ _ (.inl rfl) e,c⟩
 | dK kvs=>obtain ⟨z,y,vs,r,ob,es,ep,e,c⟩:=x;exact ⟨z,y,vs,r,ob,es,ep,k _ _ (.inl rfl) e,c⟩
 | dT kvs =>
   obtain ⟨z,y,xs,r,ob,es,ep,e,c⟩:=x
   exact ⟨z,y,xs,Paired.mapP r fun p q z=>⟨z.1,ht _ _ z.2.1,z.2.2⟩,ob,es,ep,k _ _ (.inl rfl) e,c⟩
 | set S n=>obtain ⟨ob,es,ep,t,e,c⟩:=x;exact ⟨ob,es,ep,t,k _ _ (.inl rfl) e,c⟩
 | ins C dx fs =>
   obtain ⟨d,z,ne,e,mA,⟨od,es,ep,e2,c⟩,r⟩:=x
   exact ⟨ho _ d,z,ne,k _ _ (.inl rfl) e,mA,⟨od,es,ep,k _ _ (.inr d) e2,c⟩,r⟩
 | own y=>obtain ⟨ob,e⟩:=x;exact ⟨ob,k _ _ (.inl rfl) e⟩
 | xd fs=>obtain ⟨mA,⟨od,es,ep,e,c⟩,r⟩:=x;exact ⟨mA,⟨od,es,ep,k _ _ (.inl rfl) e,c⟩,r⟩
 | rng lo hi=>obtain ⟨t,u,v,e⟩:=x;exact ⟨t,u,v,k _ _ (.inl rfl) e⟩
 | frz ob u ih=>obtain ⟨e,q⟩:=x;exact ⟨k _ _ (.inl rfl) e,ih q⟩
 | tbl ps =>
   have e:h.get? a = some { cls:=.none,data:=.fields ps }:=x;show h'.get? a = some { cls:=.none,data:=.fields ps }
   exact k a _ (.inl rfl) e
 | met f y =>
   have e:h.get? a = some (PySem.W.methodObj (.ref f) (.ref y)):=x;show h'.get? a = some (PySem.W.methodObj (.ref f) (.ref y))
   exact k a _ (.inl rfl) e
 | ext φ=>obtain ⟨p,⟨o,e⟩,st⟩:=x;exact ⟨st _ _ p fun o q=>k _ _ (.inl rfl) q,⟨o,k _ _ (.inl rfl) e⟩,st⟩
theorem HOk.lt (x:HOk P w H h) (e:H a = some o):a < h.objs.size:=(x a o e).lt
theorem HOk.fresh (x:HOk P w H h) (e:h.objs.size<=a):H a = none:=by
 cases q:H a with
 | none=>rfl
 | some u=>exact absurd (aW (x.lt q) e) (cy _)
theorem HOk.kept (x:HOk P w H h) (k:∀ b u,h.get? b = some u->h'.get? b = some u):HOk P w H h':=fun a o e =>
 (x a o e).stay (fun b u _ q=>k b u q) (fun _ q=>q) fun _ _ q=>q
theorem HOk.laid (x:HOk P w H h) (k:∀ b u,h.get? b = some u->h'.get? b = some u) (hp:h.objs.size<=a) (new:fe P w (upd H a o) h' a o):HOk P w (upd H a o) h':=fun b u e=>by
 have hn:=x.fresh hp;by_cases hb:b = a
 . subst hb;rw [bN] at e;cases e;exact new
 . rw [bA hb] at e;exact (x b u e).stay (fun c v _ q=>k c v q) (fun c q=>by rw [bA (gN q hn)];exact q) fun c xs q=>by rw [bA (gN q hn)];exact q
end
noncomputable def Rd (H:Hp) (a:aw) (u:HO):Prop:=H a = some u\/∃ o,H a = some (.frz o u)
theorem Rd.ok {P:aR} {w:bf} {H:Hp} {h:bK} {a:aw} {u:HO} (r:Rd H a u) (x:HOk P w H h):fe P w H h a u:=by
 rcases r with r | ⟨o,r⟩
 . exact x a u r
 . obtain ⟨_,q⟩:=x a _ r;exact q
noncomputable def Mut:Option HO->Prop
 | some (.lst _)=>True
 | some (.dK _)=>True
 | some (.dT _)=>True
 | some (.set _ _)=>True
 | some (.ins _ _ _)=>True
 | some (.ext _)=>True
 | _=>False
section
variable {P:aR} {w:bf} {H:Hp} {h h':bK} {x e:aw} {o':HO}
theorem HOk.write (ok:HOk P w H h) (mu:Mut (H x)) (he:e = x\/H e = some (.own x)) (k:∀ b u,b≠e->h.get? b = some u->h'.get? b = some u) (heo:∃ u,h'.get? e = some u)
 (new:fe P w (upd H x o') h' x o'):HOk P w (upd H x o') h':=fun b u q=>by
 have nown:∀ c y,H c = some (.own y)->c≠x:=fun c y r z=>by subst z;rw [r] at mu;exact mu
 have ntup:∀ c xs,H c = some (.tup xs)->c≠x:=fun c xs r z=>by subst z;rw [r] at mu;exact mu
 by_cases hb:b = x
 . subst hb;rw [bN] at q;cases q;exact new
 . rw [bA hb] at q;by_cases hbe:b = e
   . have q':H b = some (.own x):=by
      rcases he with z | z
      . exact absurd (hbe.trans z) hb
      . rw [hbe];exact z
     rw [q] at q';cases q';obtain ⟨v,hv⟩:=heo;exact ⟨v,by rw [hbe];exact hv⟩
   . refine (ok b u q).stay (fun c v hc r=>k c v ?_ r) (fun c r=>by rw [bA (nown c b r)];exact r) fun c xs r=>by rw [bA (ntup c xs r)];exact r
     rcases hc with rfl | hc
     . exact hbe
     . rintro rfl;rcases he with z | z
       . exact nown c b hc z
       . rw [hc] at z;cases z;exact hb rfl
end
structure Un (fs ex:List aw) (H H':Hp) (h h':bK):Prop where
 keep:∀ b o,h.get? b = some o->H b = none->b∉fs->b∉ex->h'.get? b = some o
 slot:∀ b o,h.get? b = some o->H b = none->b∈fs->b∉ex->∃ sl,h'.get? b = some { o with slots:=sl }
 free:∀ b o,h.get? b = some o->H b = none->b∉ex->H' b = none
 there:∀ b o,h.get? b = some o->b∉ex->∃ o',h'.get? b = some o'
 tups:∀ b xs,H b = some (.tup xs)->H' b = some (.tup xs)
 frzs:∀ b o u,H b = some (.frz o u)->H' b = some (.frz o u)
 tbls:∀ b ps,H b = some (.tbl ps)->∃ more,H' b = some (.tbl (ps++more))
section
variable {fs fs' ex ex':List aw} {H H1 H2:Hp} {h h1 h2 h':bK} {a x e:aw} {o:HO}
theorem Un.any (u:Un fs ex H H1 h h1) (q:h.get? b = some ob) (n:H b = none) (hx:b∉ex):∃ sl,h1.get? b = some { ob with slots:=sl }:=by
 by_cases hb:b∈fs
 . exact u.slot b ob q n hb hx
 . exact ⟨ob.slots,u.keep b ob q n hb hx⟩
theorem Un.kept (k:∀ b u,h.get? b = some u->h'.get? b = some u):Un fs ex H H h h' :=
 ⟨fun b ob q _ _ _=>k b ob q,fun b ob q _ _ _=>⟨ob.slots,k b ob q⟩,fun _ _ _ n _=>n,fun b ob q _=>⟨ob,k b ob q⟩,fun _ _ q=>q,fun _ _ _ q=>q,fun _ ps q=>⟨#[],by rw [q];simp⟩⟩
theorem Un.refl:Un fs ex H H h h:=Un.kept fun _ _ q=>q
theorem Un.laid (k:∀ b u,h.get? b = some u->h'.get? b = some u) (hp:h.objs.size<=a) (hn:H a = none):Un fs ex H (upd H a o) h h' where
 keep:=fun b u q _ _ _=>k b u q
 slot:=fun b u q _ _ _=>⟨u.slots,k b u q⟩
 free:=fun b u q n _=>by rw [bA (aJ (aW (az q) hp))];exact n
 there:=fun b u q _=>⟨u,k b u q⟩
 tups:=fun b xs q=>by rw [bA (gN q hn)];exact q
 frzs:=fun b u xs q=>by rw [bA (gN q hn)];exact q
 tbls:=fun b ps q=>⟨#[],by rw [bA (gN q hn),q];simp⟩
theorem Un.write (mu:Mut (H x)) (he:e = x\/H e = some (.own x)) (k:∀ b u,b≠e->h.get? b = some u->h'.get? b = some u) (heo:∃ u,h'.get? e = some u):Un fs ex H (upd H x o) h h':=by
 have hx:∀ b,H b = none->b≠x:=fun b n z=>by subst z;rw [n] at mu;exact mu
 have hb:∀ b,H b = none->b≠e:=fun b n z=>by
  subst z;rcases he with r | r
  . exact hx b n r
  . rw [n] at r;cases r
 have hm:∀ b u,H b = some u->¬ Mut (some u)->b≠x:=fun b u q nm z=>by subst z;rw [q] at mu;exact nm mu
 refine ⟨fun b u q n _ _=>k b u (hb b n) q,fun b u q n _ _=>⟨u.slots,k b u (hb b n) q⟩,fun b u q n _=>by rw [bA (hx b n)];exact n,fun b u q _=>?_,
  fun b xs q=>by rw [bA (hm b _ q fun z=>z)];exact q,fun b u xs q=>by rw [bA (hm b _ q fun z=>z)];exact q,fun b ps q=>⟨#[],by rw [bA (hm b _ q fun z=>z),q];simp⟩⟩
 by_cases hbe:b = e
 . subst hbe;exact heo
 . exact ⟨u,k b u hbe q⟩
end
noncomputable def trk (h:bK) (H:Hp):List aw:=(bD h.objs.size).filter fun a=>(H a).isSome
noncomputable def sf (h:bK) (H:Hp):bK:=PySem.W.hideAll h (trk h H)
theorem Cm (h:bK) (H:Hp):(sf h H).objs.size = h.objs.size:=PySem.W.hideAll_size _ _
theorem Gm (e:h.get? b = some o) (n:H b = none):(sf h H).get? b = some o :=
 PySem.W.hideAll_get _ e fun hm=>by
  have q:(H b).isSome = true:=(lD.mp hm).2;rw [n] at q;simp at q
theorem Jg (e:(sf h H).get? b = some o):h.get? b = some o/\H b = none:=by
 have e':h.get? b = some o:=PySem.W.of_hideAll (trk h H) e;refine ⟨e',?_⟩
 cases q:H b with
 | none=>rfl
 | some x =>
   have hm:b∈trk h H:=lD.mpr ⟨gK.mpr (az e'),by simp [q]⟩;have z:(sf h H).get? b = none:=PySem.W.hideAll_none (trk h H) hm;rw [z] at e;cases e
end L2
namespace L2
open PySem PySem.Spec PyProof.Rows
structure Mod (K:PySem.W.Frag) (mg:Str->Option af) (base:bK):Prop where
 kin:K.In base
 glob:base.Ns mainGlobals mg
 blt:∃ mb,base.Ns builtinsNs mb/\∀ x:Str,x≠"__name__"->mb x = bootBuiltins x
 nolimit:base.NoLimit
structure Cx where
 prog:aR
 w:bf
 K:PySem.W.Frag
 mg:Str->Option af
 base:bK
 A:ba
 N:List Str
 s₀:ai
 H₀:Hp
 env:Env
 outer:List Env
 stack:List Env
 ex:List aw
 fn:Str->Bool
 calm:Bool
 pn:List (aw × Obj)
 xe:af->ai->Prop
noncomputable def frs (l:List Env):List aw:=l.filterMap (·.frame)
noncomputable abbrev Cx.fs (X:Cx):List aw:=frs X.outer
noncomputable def Vis (sc:en) (x:Str):Prop:=sc.names.lookup x = some .local\/sc.names.lookup x = some .cell\/sc.names.lookup x = some .free
noncomputable def Loc (sc:en) (x:Str):Prop:=sc.names.lookup x = some .local\/sc.names.lookup x = some .cell
noncomputable def Look (env:Env) (h:bK) (m:Str->Option af) (x:Str) (u:af):Prop :=
 (env.kindOf x = some .local/\m x = some u)\/((env.kindOf x = some .cell\/env.kindOf x = some .free)/\∃ c,env.cells.lookup x = some c/\h.IsCell c (some u))
structure Cx.Ok (X:Cx):Prop where
 mod:Mod X.K X.mg X.base
 kind:X.env.scope.kind = .function
 glob:X.env.globals = mainGlobals
 blt:X.env.builtins = builtinsNs
 above:X.s₀.heap.objs.size<=X.env.locals
 inj:∀ x y c,X.env.cells.lookup x = some c->X.env.cells.lookup y = some c->x = y
 has:∀ x,(X.env.kindOf x = some .cell\/X.env.kindOf x = some .free)->∃ c,X.env.cells.lookup x = some c
 cab:∀ x c,X.fn x = true->X.env.cells.lookup x = some c->X.s₀.heap.objs.size<=c
 hd:X.calm = true->X.A.handled = none
 frames:X.A.frames = some X.stack
 stk:X.stack = X.outer\/(X.stack = X.env::X.outer/\X.env.frame = some X.env.locals)
 exf:∀ b∈X.ex,b≠X.env.locals/\∀ x c,X.env.cells.lookup x = some c->c≠b
 bs:∀ b o,X.base.get? b = some o->X.s₀.heap.get? b = some o/\X.H₀ b = none
 bsz:X.base.objs.size<=X.s₀.heap.objs.size
 noex:∀ b o,X.base.get? b = some o->b∉X.ex
 exfs:∀ b∈X.ex,b∉X.fs
 funs:X.s₀.heap.FunFrames X.base X.outer
 frf:∀ b∈X.fs,X.H₀ b = none
structure Inv (X:Cx) (pins:List (aw × Obj)) (σ:List (Option V)) (H:Hp) (s:ai):Prop where
 ok:X.Ok
 os:s.os = X.s₀.os
 bare:mE s.gens
 base:Un X.fs X.ex X.H₀ H X.s₀.heap s.heap
 loc:∃ m,s.heap.Ns X.env.locals m/\∀ (i:Nat) (x:Str) (v:V),X.N[i]? = some x->σ[i]? = some (some v)->Vis X.env.scope x->∃ u,RelV v u/\Look X.env s.heap m x u
 cell:∀ x c,X.env.cells.lookup x = some c->∃ v,s.heap.IsCell c v
 free:H X.env.locals = none
 freeC:∀ x c,X.env.cells.lookup x = some c->H c = none
 pin:∀ p∈X.pn++pins,s.heap.get? p.1 = some p.2/\H p.1 = none/\p.1≠X.env.locals/\p.1∉X.fs/\∀ v,p.2.data≠.cell v
 hok:HOk X.prog X.w H s.heap
 len:σ.length = X.N.length
section
variable {X:Cx} {pins:List (aw × Obj)} {σ:List (Option V)} {H H':Hp} {s:ai} {h':bK}
theorem Cx.Ok.nofr (ok:X.Ok) (e:X.base.get? b = some o):b∉X.fs:=fun hb=>by
 have:=(ok.funs.mem hb).1;rw [e] at this;cases this
theorem Inv.bs (I:Inv X pins σ H s):∀ b o,X.base.get? b = some o->s.heap.get? b = some o/\H b = none:=fun b o e =>
 ⟨I.base.keep b o (I.ok.bs b o e).1 (I.ok.bs b o e).2 (I.ok.nofr e) (I.ok.noex b o e),I.base.free b o (I.ok.bs b o e).1 (I.ok.bs b o e).2 (I.ok.noex b o e)⟩
theorem Inv.bk (I:Inv X pins σ H s):∀ b o,X.base.get? b = some o->s.heap.get? b = some o:=fun b o e=>(I.bs b o e).1
theorem Inv.mod (I:Inv X pins σ H s):Mod X.K X.mg X.base:=I.ok.mod
theorem Inv.kIn (I:Inv X pins σ H s):X.K.In s.heap:=I.ok.mod.kin.keeps I.bk
theorem Inv.lt (I:Inv X pins σ H s):X.env.locals < s.heap.objs.size:=let ⟨_,hn,_⟩:=I.loc;hn.lt
theorem Inv.sz (I:Inv X pins σ H s):X.s₀.heap.objs.size<=s.heap.objs.size:=aX I.ok.above (jb I.lt)
theorem Inv.nofs (I:Inv X pins σ H s) (h:s.heap.objs.size<=a):a∉X.fs:=fun hb=>by
 obtain ⟨_,o,ho,_⟩:=I.ok.funs.mem hb;exact absurd (aW (az ho) (aX I.sz h)) (cy _)
theorem Inv.cne (I:Inv X pins σ H s):∀ x c,X.env.cells.lookup x = some c->c≠X.env.locals:=fun x c e z=>by
 obtain ⟨v,o,ho,hd⟩:=I.cell x c e;obtain ⟨m,⟨o',es,ep,ho',hd',_⟩,_⟩:=I.loc;rw [z,ho'] at ho;cases ho;rw [hd'] at hd;cases hd
theorem Inv.funs (I:Inv X pins σ H s):s.heap.FunFrames X.base X.outer:=by
 have all:∀ (l:List Env),(∀ b∈frs l,b∈X.fs)->X.s₀.heap.FunFrames X.base l->s.heap.FunFrames X.base l:=by
  intro l
  induction l with
  | nil=>intro _ _;trivial
  | cons env r ih =>
    intro hs hl;obtain ⟨hk,⟨L,o,hf,hn,ho,hd⟩,hr⟩:=hl;have hL:L∈X.fs:=hs L (by unfold frs;rw [dw,hf];exact ao);obtain ⟨sl,e⟩:=I.base.slot L o ho (I.ok.frf L hL) hL fun z=>I.ok.exfs L z hL;exact ⟨hk,⟨L,_,hf,hn,e,hd⟩,ih (fun b hb=>hs b (by unfold frs;rw [dw,hf];exact aq _ hb)) hr⟩
 exact all X.outer (fun _ hb=>hb) I.ok.funs
theorem Inv.stack (I:Inv X pins σ H s):s.heap.FunFrames X.base X.stack:=by
 rcases I.ok.stk with e | ⟨e,hf⟩
 . rw [e];exact I.funs
 . rw [e];obtain ⟨m,hn,_⟩:=I.loc;refine .cons (by rw [I.ok.kind];decide) hf hn ?_ I.funs;exact Ba (aX I.ok.bsz I.ok.above)
theorem Inv.stkSub (I:Inv X pins σ H s):∀ b∈frs X.stack,b∈X.env.locals::X.fs:=fun b hb=>by
 rcases I.ok.stk with e | ⟨e,hf⟩
 . rw [e] at hb;exact aq _ hb
 . rw [e] at hb;unfold frs at hb;rw [dw,hf] at hb;exact hb
theorem Inv.stkFree (I:Inv X pins σ H s):∀ b∈frs X.stack,H b = none:=fun b hb=>by
 rcases aD.mp (I.stkSub b hb) with e | hb
 . rw [e];exact I.free
 . obtain ⟨_,o,ho,_⟩:=I.ok.funs.mem hb;exact I.base.free b o ho (I.ok.frf b hb) fun z=>I.ok.exfs b z hb
theorem Inv.step {g':Array lU} {t':Nat} {d':Drawn} {ch:List aw} (I:Inv X pins σ H s)
 (hch:∀ b∈ch,(b∈X.ex\/X.s₀.heap.objs.size<=b)/\b≠X.env.locals/\(∀ x c,X.env.cells.lookup x = some c->c≠b)/\∀ p∈X.pn++pins,p.1≠b)
 (keep:∀ b o,b≠X.env.locals->b∉X.fs->b∉ch->s.heap.get? b = some o->H b = none->h'.get? b = some o)
 (slot:∀ b o,b≠X.env.locals->b∈X.fs->b∉ch->s.heap.get? b = some o->H b = none->∃ sl,h'.get? b = some { o with slots:=sl }) (free:∀ b o,b∉ch->s.heap.get? b = some o->H b = none->H' b = none)
 (there:∀ b o,b∉ch->s.heap.get? b = some o->∃ o',h'.get? b = some o')
 (tups:∀ b xs,H b = some (.tup xs)->H' b = some (.tup xs)) (frzs:∀ b o u,H b = some (.frz o u)->H' b = some (.frz o u)) (tbls:∀ b ps,H b = some (.tbl ps)->∃ more,H' b = some (.tbl (ps++more)))
 (ns:∀ m,s.heap.Ns X.env.locals m->h'.Ns X.env.locals m) (hok:HOk X.prog X.w H' h') (hg:mE g') :
 Inv X pins σ H' { s with heap:=h',gens:=g',drawn:=d',toks:=t' }:=by
 have neL:∀ b o,X.s₀.heap.get? b = some o->b≠X.env.locals:=fun b o e=>aJ (aW (az e) I.ok.above)
 have neC:∀ b o,X.s₀.heap.get? b = some o->b∉X.ex->b∉ch:=fun b o e hx hb=>by
  rcases (hch b hb).1 with z | z
  . exact hx z
  . exact absurd (aW (az e) z) (cy _)
 have cellK:∀ x c,X.env.cells.lookup x = some c->∀ v,s.heap.IsCell c v->h'.IsCell c v:=fun x c e v zz=>by
  obtain ⟨o,ho,hd⟩:=zz;have nch:c∉ch:=fun z=>(hch c z).2.2.1 x c e rfl;by_cases hc:c∈X.fs
  . obtain ⟨sl,q⟩:=slot c o (I.cne x c e) hc nch ho (I.freeC x c e);exact ⟨_,q,hd⟩
  . exact ⟨o,keep c o (I.cne x c e) hc nch ho (I.freeC x c e),hd⟩
 refine ⟨I.ok,I.os,hg,⟨fun b o e n hb hx=>?_,fun b o e n hb hx=>?_,fun b o e n hx=>?_,fun b o e hx=>?_,fun b xs e=>tups b xs (I.base.tups b xs e),fun b o xs e=>frzs b o xs (I.base.frzs b o xs e),fun b ps e=>?_⟩,?_,fun x c e=>?_,?_,fun x c e=>?_,fun p hp=>?_,hok,I.len⟩
 . exact keep b o (neL b o e) hb (neC b o e hx) (I.base.keep b o e n hb hx) (I.base.free b o e n hx)
 . obtain ⟨sl,e1⟩:=I.base.slot b o e n hb hx;obtain ⟨sl',e2⟩:=slot b _ (neL b o e) hb (neC b o e hx) e1 (I.base.free b o e n hx);exact ⟨sl',e2⟩
 . obtain ⟨o',e1⟩:=I.base.there b o e hx;exact free b o' (neC b o e hx) e1 (I.base.free b o e n hx)
 . obtain ⟨o',e1⟩:=I.base.there b o e hx;exact there b o' (neC b o e hx) e1
 . obtain ⟨m1,e1⟩:=I.base.tbls b ps e;obtain ⟨m2,e2⟩:=tbls b _ e1;exact ⟨m1++m2,by rw [e2,Array.append_assoc]⟩
 . obtain ⟨m,hn,hl⟩:=I.loc;refine ⟨m,ns m hn,fun i x v e1 e2 e3=>?_⟩;obtain ⟨u,r,l⟩:=hl i x v e1 e2 e3;refine ⟨u,r,?_⟩;rcases l with l | ⟨k,c,e,z⟩
   . exact .inl l
   . exact .inr ⟨k,c,e,cellK x c e _ z⟩
 . obtain ⟨v,z⟩:=I.cell x c e;exact ⟨v,cellK x c e v z⟩
 . obtain ⟨m,⟨o,_,_,ho,_⟩,_⟩:=I.loc;exact free _ o (fun z=>(hch _ z).2.1 rfl) ho I.free
 . obtain ⟨v,o,ho,hd⟩:=I.cell x c e;exact free c o (fun z=>(hch c z).2.2.1 x c e rfl) ho (I.freeC x c e)
 . obtain ⟨e,n,ne,nf,d⟩:=I.pin p hp;have nch:p.1∉ch:=fun z=>(hch p.1 z).2.2.2 p hp rfl;exact ⟨keep p.1 p.2 ne nf nch e n,free p.1 p.2 nch e n,ne,nf,d⟩
theorem Inv.un {t':Nat} (I:Inv X pins σ H s) (u:Un X.fs [] H H' s.heap h') (hok:HOk X.prog X.w H' h'):Inv X pins σ H' { s with heap:=h',toks:=t' }:=by
 obtain ⟨m,⟨o,es,ep,ho,r⟩,_⟩:=id I.loc;obtain ⟨sl,hL⟩:=u.any ho I.free (by simp)
 exact I.step (g':=s.gens) (d':=s.drawn) (ch:=[]) (fun _ z=>nomatch z) (fun b o _ hb _ e n=>u.keep b o e n hb (by simp)) (fun b o _ hb _ e n=>u.slot b o e n hb (by simp)) (fun b o _ e n=>u.free b o e n (by simp)) (fun b o _ e=>u.there b o e (by simp)) u.tups u.frzs u.tbls (fun m' hm=>by
  obtain ⟨o',es',ep',ho',r'⟩:=hm;rw [ho] at ho';cases ho';exact ⟨_,es',ep',hL,r'⟩) hok I.bare
theorem Inv.call {g':Array lU} {t':Nat} {d':Drawn} {ch:List aw} (I:Inv X pins σ H s) (u:Un (frs X.stack) ch H H' s.heap h') (hok:HOk X.prog X.w H' h') (hg:mE g')
 (hch:∀ b∈ch,(b∈X.ex\/X.s₀.heap.objs.size<=b)/\b≠X.env.locals/\(∀ x c,X.env.cells.lookup x = some c->c≠b)/\∀ p∈X.pn++pins,p.1≠b) :
 Inv X pins σ H' { s with heap:=h',gens:=g',drawn:=d',toks:=t' }:=by
 obtain ⟨m,⟨o,es,ep,ho,r⟩,_⟩:=id I.loc;obtain ⟨sl,hL⟩:=u.any ho I.free fun z=>(hch _ z).2.1 rfl
 exact I.step (ch:=ch) hch (fun b o hL hb hc e n=>u.keep b o e n (fun z=>(aD.mp (I.stkSub b z)).elim hL hb) hc) (fun b o _ _ hc e n=>u.any e n hc) (fun b o hc e n=>u.free b o e n hc) (fun b o hc e=>u.there b o e hc) u.tups u.frzs u.tbls (fun m' hm=>by
  obtain ⟨o',es',ep',ho',r'⟩:=hm;rw [ho] at ho';cases ho';exact ⟨_,es',ep',hL,r'⟩) hok hg
theorem Inv.turned {t':Nat} {it:aw} (I:Inv X pins σ H s) (k:∀ b o,b≠it->s.heap.get? b = some o->h'.get? b = some o) (hn:H it = none) (hL:it≠X.env.locals)
 (h1:it∈X.ex\/X.s₀.heap.objs.size<=it) (h2:∀ x c,X.env.cells.lookup x = some c->c≠it) (h3:∀ p∈X.pn++pins,p.1≠it):Inv X pins σ H { s with heap:=h',toks:=t' }:=by
 have nit:∀ b u,H b = some u->b≠it:=fun b u e z=>by rw [z,hn] at e;cases e
 refine I.step (g':=s.gens) (d':=s.drawn) (ch:=[it]) (fun b hb=>?_) (fun b o _ _ hc e _=>k b o (fun z=>hc (by simp [z])) e) (fun b o _ _ hc e _=>⟨o.slots,k b o (fun z=>hc (by simp [z])) e⟩) (fun _ _ _ _ n=>n)
  (fun b o hc e=>⟨o,k b o (fun z=>hc (by simp [z])) e⟩) (fun _ _ e=>e) (fun _ _ _ e=>e) (fun b ps e=>⟨#[],by rw [e];simp⟩) (fun m hm=>?_) (fun b u e=>?_) I.bare
 . have e:b = it:=by simpa using hb
   subst e;exact ⟨h1,hL,h2,h3⟩
 . obtain ⟨o,es,ep,ho,r⟩:=hm;exact ⟨o,es,ep,k _ o (Ne.symm hL) ho,r⟩
 . refine (I.hok b u e).stay (fun c v hc q=>k c v ?_ q) (fun _ q=>q) fun _ _ q=>q;rcases hc with z | z
   . rw [z];exact nit b u e
   . exact nit c _ z
theorem Inv.tok (I:Inv X pins σ H s) (t:Nat):Inv X pins σ H { s with toks:=t }:=I.un (h':=s.heap) (t':=t) Un.refl I.hok
theorem Inv.kept {t':Nat} (I:Inv X pins σ H s) (k:∀ b u,s.heap.get? b = some u->h'.get? b = some u):Inv X pins σ H { s with heap:=h',toks:=t' }:=I.un (Un.kept k) (I.hok.kept k)
theorem Inv.laid {a:aw} {o:HO} {t':Nat} (I:Inv X pins σ H s) (k:∀ b u,s.heap.get? b = some u->h'.get? b = some u) (hp:s.heap.objs.size<=a) (new:fe X.prog X.w (upd H a o) h' a o) :
 Inv X pins σ (upd H a o) { s with heap:=h',toks:=t' }:=I.un (Un.laid k hp (I.hok.fresh hp)) (I.hok.laid k hp new)
theorem Inv.write (I:Inv X pins σ H s) (mu:Mut (H x)) (he:e = x\/H e = some (.own x)) (k:∀ b u,b≠e->s.heap.get? b = some u->h'.get? b = some u) (heo:∃ u,h'.get? e = some u)
 (new:fe X.prog X.w (upd H x o) h' x o):Inv X pins σ (upd H x o) { s with heap:=h',toks:=t' }:=I.un (Un.write mu he k heo) (I.hok.write mu he k heo new)
theorem Inv.pins_of (I:Inv X pins σ H s) (h:∀ p∈pins',s.heap.get? p.1 = some p.2/\H p.1 = none/\p.1≠X.env.locals/\p.1∉X.fs/\∀ v,p.2.data≠.cell v):Inv X pins' σ H s :=
 ⟨I.ok,I.os,I.bare,I.base,I.loc,I.cell,I.free,I.freeC,fun p hp=>(br.mp hp).elim (fun z=>I.pin p (cJ _ z)) (h p),I.hok,I.len⟩
theorem wQ {N:List Str} (hN:N.Nodup) {i j:Nat} {x:Str} (a:N[i]? = some x) (b:N[j]? = some x):i = j:=by
 obtain ⟨h1,e1⟩:=aF.mp a;obtain ⟨h2,e2⟩:=aF.mp b;exact (Hu hN).mp (e1.trans e2.symm)
theorem BD {M:Model} {A:ba} {E:af->ai->Prop} {i:Nat} {x:Str} {v:V} {u:af} {Q:Unit->ai->Prop} (I:Inv X pins σ H s) (hN:X.N.Nodup) (hi:X.N[i]? = some x) (hx:Loc X.env.scope x) (r:RelV v u)
 (h:∀ s',Inv X pins (σ.set i (some v)) H s'->(∃ a,dy a s.heap s'.heap/\(a = X.env.locals\/X.env.cells.lookup x = some a))->Q () s') (hf:X.fn x = true\/X.env.scope.names.lookup x = some .local:=by first | exact .inl rfl | exact .inr rfl | assumption):wpAny M A (storeName X.env x u) Q E s:=by
 obtain ⟨m,hn,hl⟩:=id I.loc;have hcls:(X.env.scope.kind == .class || (X.env.scope.kind == .module && X.env.locals != X.env.globals)) = false:=by rw [I.ok.kind];rfl
 have hiσ:i < σ.length:=by rw [I.len];exact (aF.mp hi).1
 have cne:=I.cne
 have tracked:∀ {a:aw} {h':bK},(∃ o,s.heap.get? a = some o/\H a = none)->dy a s.heap h'->HOk X.prog X.w H h':=fun {a h'} ha hs b ob e=>by
  obtain ⟨_,_,hfree⟩:=ha;refine (I.hok b ob e).stay (fun c w' hc q=>(hs.2 c ?_).trans q) (fun _ q=>q) fun _ _ q=>q;rintro rfl;rcases hc with rfl | hc
  . rw [hfree] at e;cases e
  . rw [hfree] at hc;cases hc
 rcases hx with hk | hk
 . refine wpAny_storeName_local hk hn (fun h' hn' hs=>?_) hcls;obtain ⟨oL,_,_,hoL,_⟩:=id hn;refine h _ ⟨I.ok,I.os,I.bare,⟨fun b o e n hb hx=>?_,fun b o e n hb hx=>?_,I.base.free,fun b o e hx=>?_,I.base.tups,I.base.frzs,I.base.tbls⟩,⟨_,hn',fun j y v' e1 e2 e3=>?_⟩,fun y c e=>?_,I.free,I.freeC,fun p hp=>?_,tracked ⟨oL,hoL,I.free⟩ hs,by simpa using I.len⟩ ⟨_,hs,.inl rfl⟩
   . exact (hs.2 b (aJ (aW (az e) I.ok.above))).trans (I.base.keep b o e n hb hx)
   . obtain ⟨sl,e1⟩:=I.base.slot b o e n hb hx;exact ⟨sl,(hs.2 b (aJ (aW (az e) I.ok.above))).trans e1⟩
   . obtain ⟨o',e1⟩:=I.base.there b o e hx;exact ⟨o',(hs.2 b (aJ (aW (az e) I.ok.above))).trans e1⟩
   . by_cases hj:j = i
     . subst hj;rw [hi] at e1;cases e1;rw [cQ hiσ] at e2;cases e2;exact ⟨u,r,.inl ⟨hk,by simp⟩⟩
     . rw [bL (Ne.symm hj)] at e2;obtain ⟨u',r',q⟩:=hl j y v' e1 e2 e3;refine ⟨u',r',?_⟩;rcases q with ⟨k,e⟩ | ⟨k,c,e,z⟩
       . refine .inl ⟨k,?_⟩;have:y≠x:=fun e=>hj (wQ hN e1 (e▸hi));simp [this,e]
       . exact .inr ⟨k,c,e,z.sameBut hs (cne y c e)⟩
   . obtain ⟨w',z⟩:=I.cell y c e;exact ⟨w',z.sameBut hs (cne y c e)⟩
   . obtain ⟨e,n,ne,nf,d⟩:=I.pin p hp;exact ⟨(hs.2 p.1 ne).trans e,n,ne,nf,d⟩
 . have hfn:X.fn x = true:=by
    rcases hf with z | z
    . exact z
    . rw [z] at hk;cases hk
   obtain ⟨c,hc⟩:=I.ok.has x (.inl hk);obtain ⟨w',z⟩:=I.cell x c hc;refine wpAny_storeName_cell I.ok.kind hk hc z (fun h' hc' hs=>?_);obtain ⟨oc,hoc,hocd⟩:=id z;refine h { s with heap:=h' } ⟨I.ok,I.os,I.bare,⟨fun b o e n hb hx=>?_,fun b o e n hb hx=>?_,I.base.free,fun b o e hx=>?_,I.base.tups,I.base.frzs,I.base.tbls⟩,⟨m,hn.sameBut hs (Ne.symm (cne x c hc)),fun j y v' e1 e2 e3=>?_⟩,fun y c' e=>?_,I.free,I.freeC,fun p hp=>?_,tracked ⟨oc,hoc,I.freeC x c hc⟩ hs,by simpa using I.len⟩ ⟨c,hs,.inr hc⟩
   . exact (hs.2 b (aJ (aW (az e) (I.ok.cab x c hfn hc)))).trans (I.base.keep b o e n hb hx)
   . obtain ⟨sl,e1⟩:=I.base.slot b o e n hb hx;exact ⟨sl,(hs.2 b (aJ (aW (az e) (I.ok.cab x c hfn hc)))).trans e1⟩
   . obtain ⟨o',e1⟩:=I.base.there b o e hx;exact ⟨o',(hs.2 b (aJ (aW (az e) (I.ok.cab x c hfn hc)))).trans e1⟩
   . by_cases hj:j = i
     . subst hj;rw [hi] at e1;cases e1;rw [cQ hiσ] at e2;cases e2;exact ⟨u,r,.inr ⟨.inl hk,c,hc,hc'⟩⟩
     . rw [bL (Ne.symm hj)] at e2;obtain ⟨u',r',q⟩:=hl j y v' e1 e2 e3;refine ⟨u',r',?_⟩;rcases q with q | ⟨k,c',e,z'⟩
       . exact .inl q
       . refine .inr ⟨k,c',e,z'.sameBut hs ?_⟩;rintro rfl;exact hj (wQ hN e1 (I.ok.inj _ _ _ e hc▸hi))
   . by_cases hcc:c' = c
     . subst hcc;exact ⟨_,hc'⟩
     . obtain ⟨w2,z2⟩:=I.cell y c' e;exact ⟨w2,z2.sameBut hs hcc⟩
   . obtain ⟨e,n,ne,nf,d⟩:=I.pin p hp;refine ⟨(hs.2 p.1 ?_).trans e,n,ne,nf,d⟩;intro q;rw [q,hoc] at e;have q':oc = p.2:=aY e;exact d w' (by rw [<- q'];exact hocd)
theorem kN (I:Inv X pins σ H s) (hN:X.N.Nodup) (hi:X.N[i]? = some x) (hx:Loc X.env.scope x) (r:RelV v u)
 (h:∀ s',Inv X pins (σ.set i (some v)) H s'->Q () s') (hf:X.fn x = true\/X.env.scope.names.lookup x = some .local:=by first | exact .inl rfl | exact .inr rfl | assumption):wpAny M A (storeName X.env x u) Q E s :=
 BD I hN hi hx r (fun s' I' _=>h s' I') hf
theorem Inv.call' (I:Inv X pins σ H s) (ho:s'.os = s.os) (u:Un (frs X.stack) ch H H' s.heap s'.heap) (hok:HOk X.prog X.w H' s'.heap) (hg:mE s'.gens)
 (hch:∀ b∈ch,(b∈X.ex\/X.s₀.heap.objs.size<=b)/\b≠X.env.locals/\(∀ x c,X.env.cells.lookup x = some c->c≠b)/\∀ p∈X.pn++pins,p.1≠b):Inv X pins σ H' s':=by
 obtain ⟨h',g',d',t',o'⟩:=s';have e:o' = s.os:=ho;subst e;exact I.call (g':=g') (t':=t') (d':=d') u hok hg hch
end
abbrev XK:=af->Option aw->Hp->Prop
abbrev St:=List (Option V)
abbrev VK:=V->Hp->Prop
abbrev TE:=St->Hp->VK->Prop
abbrev TT:=St->Hp->(Bool->Hp->Prop)->Prop
abbrev TA:=St->Hp->(List V->Hp->Prop)->Prop
structure Ends where
 nx:St->Hp->Prop
 rt:VK
 bk:St->Hp->Prop:=fun _ _=>False
 ct:St->Hp->Prop:=fun _ _=>False
abbrev TS:=Ends->St->Hp->Prop
noncomputable def EP (X:Cx) (pins:List (aw × Obj)) (σ:St) (Q:VK) (u:af) (s':ai):Prop:=∃ v H',Inv X pins σ H' s'/\RelV v u/\Q v H'
noncomputable def TP (X:Cx) (pins:List (aw × Obj)) (σ:St) (Q:Bool->Hp->Prop) (b:Bool) (s':ai):Prop:=∃ H',Inv X pins σ H' s'/\Q b H'
noncomputable def AP (X:Cx) (pins:List (aw × Obj)) (σ:St) (Q:List V->Hp->Prop) (us:List af) (s':ai):Prop:=∃ vs H',Inv X pins σ H' s'/\Vals vs us/\Q vs H'
noncomputable def SP (X:Cx) (pins:List (aw × Obj)) (D:Ends) (f:Flow) (s':ai):Prop :=
 match f with
 | .next=>∃ σ' H',Inv X pins σ' H' s'/\D.nx σ' H'
 | .brk=>∃ σ' H',Inv X pins σ' H' s'/\D.bk σ' H'
 | .cont=>∃ σ' H',Inv X pins σ' H' s'/\D.ct σ' H'
 | .ret u=>∃ v σ' H',Inv X pins σ' H' s'/\RelV v u/\D.rt v H'
noncomputable def PE (X:Cx) (e:aI) (t:TE):Prop :=
 ∀ (pins:List (aw × Obj)) (s:ai) (σ:St) (H:Hp) (Q:VK),Inv X pins σ H s->t σ H Q->wpAny (model X.prog X.w) X.A (eval e X.env) (EP X pins σ Q) X.xe s
noncomputable def PT (X:Cx) (e:aI) (t:TT):Prop :=
 ∀ (pins:List (aw × Obj)) (s:ai) (σ:St) (H:Hp) (Q:Bool->Hp->Prop),Inv X pins σ H s->t σ H Q->wpAny (model X.prog X.w) X.A (isTrue e X.env (eval e X.env)) (TP X pins σ Q) X.xe s
noncomputable def PW (X:Cx) (e:aI) (t:TT):Prop :=
 ∀ (whole:Sem af) (pins:List (aw × Obj)) (s:ai) (σ:St) (H:Hp) (Q:Bool->Hp->Prop),Inv X pins σ H s->t σ H Q->wpAny (model X.prog X.w) X.A (isTrue e X.env whole) (TP X pins σ Q) X.xe s
theorem PW.pt {X:Cx} {e:aI} {t:TT} (h:PW X e t):PT X e t:=h _
noncomputable def PA (X:Cx) (es:List aI) (t:TA):Prop :=
 ∀ (pos:Pos) (pins:List (aw × Obj)) (s:ai) (σ:St) (H:Hp) (Q:List V->Hp->Prop),Inv X pins σ H s->t σ H Q->wpAny (model X.prog X.w) X.A (spliced (backTo pos (starEach es X.env))) (AP X pins σ Q) X.xe s
noncomputable def PS (X:Cx) (st:de) (t:TS):Prop :=
 ∀ (pins:List (aw × Obj)) (s:ai) (σ:St) (H:Hp) (D:Ends),Inv X pins σ H s->t D σ H->wpAny (model X.prog X.w) X.A (exec st X.env) (SP X pins D) X.xe s
noncomputable def PSs (X:Cx) (st:List de) (t:TS):Prop :=
 ∀ (pins:List (aw × Obj)) (s:ai) (σ:St) (H:Hp) (D:Ends),Inv X pins σ H s->t D σ H->wpAny (model X.prog X.w) X.A (execs st X.env) (SP X pins D) X.xe s
theorem thn {α:Type} {t:Sem α} {Q Q':α->ai->Prop} {M:Model} {A:ba} {E:af->ai->Prop} {s:ai} (h:wpAny M A t Q E s) (hQ:∀ a s,Q a s->Q' a s):wpAny M A t Q' E s:=iV h hQ fun _ _ x=>x
end L2
namespace L2
open PySem PySem.Spec PyProof.Rows
section
variable {X:Cx}
noncomputable def Lb (i:Nat):TE:=fun σ H Q=>∃ v,σ[i]? = some (some v)/\Q v H
noncomputable def tC (v:V):TE:=fun _ H Q=>Q v H
theorem jV (hN:X.N[i]? = some x) (hv:Vis X.env.scope x) (hd:(x == ("__debug__":Str)) = false:=by decide) (hcd:(x == ("__classdict__":Str)) = false:=by decide):PE X (.Name x pos) (Lb i):=by
 intro pins s σ H Q I h;obtain ⟨v,e,h⟩:=h;obtain ⟨m,hn,hl⟩:=I.loc;obtain ⟨u,r,l⟩:=hl i x v hN e hv;have fin:EP X pins σ Q u s:=⟨v,H,I,r,h⟩;rcases l with ⟨hk,hm⟩ | ⟨hk,c,hc,hcell⟩
 . exact Nv (wpAny_loadName_local I.ok.kind hk hn hm fin) hd
 . rcases hk with hk | hk
   . exact Nv (wpAny_loadName_cell I.ok.kind hk hc hcell fin) hd
   . exact Nv (wpAny_loadName_free I.ok.kind hk hc hcell fin hcd) hd
theorem LV:PE X (.Constant (.int i) j pos) (tC (.int i)):=fun _ _ _ H _ I h=>wpAny_Constant_int ⟨.int i,H,I.tok _,⟨_,rfl⟩,h⟩
theorem Oo:PE X (.Constant (.bool b) j pos) (tC (.bl b)):=fun _ _ _ H _ I h=>Constant_bool ⟨.bl b,H,I,rfl,h⟩
theorem LU:PE X (.Constant .none j pos) (tC .non):=fun _ _ _ H _ I h=>Constant_none ⟨.non,H,I,rfl,h⟩
theorem LR:PE X (.Constant (.str x) j pos) (tC (.str x)):=fun _ _ _ H _ I h=>Calls.Constant_str ⟨.str x,H,I.tok _,⟨_,rfl⟩,h⟩
noncomputable def Gl (X:Cx) (x:Str):Prop:=X.env.kindOf x = some .globalImplicit
theorem uP (I:Inv X pins σ H s) (hg:Gl X x) (hm:X.mg x = some u) (h:Q u s)
 (hd:(x == ("__debug__":Str)) = false:=by decide):wpAny (model X.prog X.w) X.A (eval (.Name x pos) X.env) Q E s :=
 sC I.ok.kind hg (Calls.loadGlobal_global (by rw [I.ok.glob];exact I.mod.glob.keeps I.bk) hm h) hd
theorem rk {E:af->ai->Prop} {pins:List (aw × Obj)} {s:ai} {σ:St} {H:Hp} {x:Str} {u:af} {pos:Pos} {Q:af->ai->Prop} (I:Inv X pins σ H s) (hg:Gl X x) (hm:X.mg x = none) (hv:bootBuiltins x = some u) (h:Q u s)
 (hn:x≠"__name__":=by decide) (hd:(x == ("__debug__":Str)) = false:=by decide):wpAny (model X.prog X.w) X.A (eval (.Name x pos) X.env) Q E s:=by
 obtain ⟨mb,h1,h2⟩:=I.mod.blt;exact sC I.ok.kind hg (Calls.loadGlobal_builtin (by rw [I.ok.glob];exact I.mod.glob.keeps I.bk) hm (by rw [I.ok.blt];exact h1.keeps I.bk) ((h2 x hn).trans hv) h) hd
theorem IS (hg:Gl X x) (hm:X.mg x = some u) (r:RelV v u) (hd:(x == ("__debug__":Str)) = false:=by decide):PE X (.Name x pos) (tC v) :=
 fun _ _ _ H _ I h=>uP I hg hm ⟨v,H,I,r,h⟩ hd
theorem IU (hg:Gl X x) (hm:X.mg x = none) (hv:bootBuiltins x = some u) (r:RelV v u) (hn:x≠"__name__":=by decide) (hd:(x == ("__debug__":Str)) = false:=by decide):PE X (.Name x pos) (tC v) :=
 fun _ _ _ H _ I h=>rk I hg hm hv ⟨v,H,I,r,h⟩ hn hd
variable {a b:aI} {ta tb:TE} {pos:Pos}
variable {tA tB':TT} {rest:List aI}
noncomputable def Pt (t u:TT):TT:=fun σ H Q=>t σ H fun c H1=>if c = true then u σ H1 Q else Q false H1
noncomputable def tOr (t u:TT):TT:=fun σ H Q=>t σ H fun c H1=>if c = true then Q true H1 else u σ H1 Q
noncomputable def Pn (t:TT):TT:=fun σ H Q=>t σ H fun c H1=>Q (!c) H1
theorem II (ha:PT X a tA):PW X (.BoolOp .And [a] pos) tA:=by
 intro wh pins s σ H Q I h;refine isTrue_and (thn (ha pins s σ H Q I h) fun c s1 e=>?_)
 cases c with
 | true=>exact isTrue_and_nil e
 | false=>exact e
theorem LD (ha:PT X a tA):PW X (.BoolOp .Or [a] pos) tA:=by
 intro wh pins s σ H Q I h;refine isTrue_or (thn (ha pins s σ H Q I h) fun c s1 e=>?_)
 cases c with
 | false=>exact isTrue_or_nil e
 | true=>exact e
theorem LF (ha:PT X a tA) (hb:PW X (.BoolOp .And (b::rest) pos) tB'):PW X (.BoolOp .And (a::b::rest) pos) (Pt tA tB'):=by
 intro wh pins s σ H Q I h;refine isTrue_and (thn (ha pins s σ H _ I h) fun c s1 ⟨H1,I1,q1⟩=>?_)
 cases c with
 | true=>exact hb wh pins s1 σ H1 Q I1 q1
 | false=>exact ⟨H1,I1,q1⟩
theorem Of (ha:PT X a tA) (hb:PW X (.BoolOp .Or (b::rest) pos) tB'):PW X (.BoolOp .Or (a::b::rest) pos) (tOr tA tB'):=by
 intro wh pins s σ H Q I h;refine isTrue_or (thn (ha pins s σ H _ I h) fun c s1 ⟨H1,I1,q1⟩=>?_)
 cases c with
 | true=>exact ⟨H1,I1,q1⟩
 | false=>exact hb wh pins s1 σ H1 Q I1 q1
theorem LG (ha:PT X a tA):PT X (.UnaryOp .Not a pos) (Pn tA):=by
 intro pins s σ H Q I h;exact isTrue_not (ha pins s σ H (fun c H1=>Q (!c) H1) I h)
noncomputable def NV (ta tb:TE):TE:=fun σ H Q=>ta σ H fun x H1=>∃ c,x = .bl c/\if c = true then tb σ H1 Q else Q (.bl false) H1
noncomputable def Pm (ta tb:TE):TE:=fun σ H Q=>ta σ H fun x H1=>∃ c,x = .bl c/\if c = true then Q (.bl true) H1 else tb σ H1 Q
noncomputable def NQ (ta:TE):TE:=fun σ H Q=>ta σ H fun x H1=>∃ c,x = .bl c/\Q (.bl (!c)) H1
theorem EX (h:PE X a t):PE X (.BoolOp op [a] pos) t:=fun pins s σ H Q I hw=>BoolOp_one (h pins s σ H Q I hw)
theorem LX (ha:PE X a ta) (hb:PE X (.BoolOp .And (b::rest) pos) tb):PE X (.BoolOp .And (a::b::rest) pos) (NV ta tb):=by
 intro pins s σ H Q I h;refine BoolOp_and (thn (ha pins s σ H _ I h) fun v s1 ⟨x,H1,I1,r1,q1⟩=>?_);obtain ⟨c,rfl,q1⟩:=q1;cases r1;refine fN ?_
 cases c with
 | true=>exact hb pins s1 σ H1 Q I1 q1
 | false=>exact ⟨.bl false,H1,I1,rfl,q1⟩
theorem Oj (ha:PE X a ta) (hb:PE X (.BoolOp .Or (b::rest) pos) tb):PE X (.BoolOp .Or (a::b::rest) pos) (Pm ta tb):=by
 intro pins s σ H Q I h;refine BoolOp_or (thn (ha pins s σ H _ I h) fun v s1 ⟨x,H1,I1,r1,q1⟩=>?_);obtain ⟨c,rfl,q1⟩:=q1;cases r1;refine fN ?_
 cases c with
 | false=>exact hb pins s1 σ H1 Q I1 q1
 | true=>exact ⟨.bl true,H1,I1,rfl,q1⟩
theorem LS (ha:PE X a ta):PE X (.UnaryOp .Not a pos) (NQ ta):=by
 intro pins s σ H Q I h;refine UnaryOp_ (thn (ha pins s σ H _ I h) fun v s1 ⟨x,H1,I1,r1,q1⟩=>?_);obtain ⟨c,rfl,q1⟩:=q1;cases r1;exact not_of (fN ⟨.bl (!c),H1,I1,rfl,q1⟩)
noncomputable def tIf (t:TT) (ta tb:TE):TE:=fun σ H Q=>t σ H fun c H1=>if c = true then ta σ H1 Q else tb σ H1 Q
theorem Fb {c:aI} (hc:PT X c tA) (ha:PE X a ta) (hb:PE X b tb):PE X (.IfExp c a b pos) (tIf tA ta tb):=by
 intro pins s σ H Q I h;refine wpAny_IfExp (thn (hc pins s σ H _ I h) fun d s1 ⟨H1,I1,q1⟩=>?_)
 cases d with
 | true=>exact ha pins s1 σ H1 Q I1 q1
 | false=>exact hb pins s1 σ H1 Q I1 q1
end
end L2
namespace L2
open PySem PySem.Spec PyProof.Rows
noncomputable def SqL (K:PySem.W.Frag) (H:Hp) (a:aw) (xs:List V):Prop :=
 Rd H a (.lst xs) \/
  ∃ (o:Obj) (its:Array af) (n:Nat),K.lookup a = some o/\o.cls = .type "list"/\o.dict = none/\o.data = .seq its n/\its.size<=sizeLine/\Vals xs its.toList
noncomputable def SqT (K:PySem.W.Frag) (H:Hp) (a:aw) (xs:List V):Prop :=
 Rd H a (.tup xs) \/
  ∃ (o:Obj) (its:Array af) (n:Nat),K.lookup a = some o/\o.cls = .type "tuple"/\o.data = .seq its n/\its.size<=sizeLine/\Vals xs its.toList
noncomputable def Qi:af->Option V
 | .none=>some .non
 | .bool b=>some (.bl b)
 | .int i _=>some (.int i)
 | .str x _=>some (.str x)
 | .bytes b _=>some (.byt b)
 | .float b _=>some (.flt b)
 | .ref a=>some (.ref a)
 | .type n=>some (.ty n)
 | _=>none
theorem RelV.abs (r:RelV x u):Qi u = some x:=by
 cases x with
 | non=>cases r;rfl
 | bl _=>cases r;rfl
 | int _=>obtain ⟨t,rfl⟩:=r;rfl
 | str _=>obtain ⟨t,rfl⟩:=r;rfl
 | byt _=>obtain ⟨t,rfl⟩:=r;rfl
 | flt _=>obtain ⟨t,rfl⟩:=r;rfl
 | ref _=>cases r;rfl
 | ty _=>cases r;rfl
theorem RelV.inj {x y:V} {u:af} (r:RelV x u) (q:RelV y u):x = y:=aY (r.abs.symm.trans q.abs)
theorem Vals.inj:∀ {xs ys:List V} {us:List af},Vals xs us->Vals ys us->xs = ys
 | _,_,_,.nil,.nil=>rfl
 | _,_,_,.cons r t,.cons r' t'=>by rw [r.inj r',Vals.inj t t']
section
variable {X:Cx} {pins:List (aw × Obj)} {σ:St} {H:Hp} {s:ai} {a:aw} {xs ys:List V}
theorem SqT.of {K:PySem.W.Frag} (h:H a = some (.tup xs)):SqT K H a xs:=.inl (.inl h)
theorem Inv.list (I:Inv X pins σ H s) (h:SqL X.K H a xs):∃ its:List af,Vals xs its/\PlainL s.heap a its.toArray/\xs.length<=sizeLine:=by
 rcases h with h | ⟨o,its,n,hk,hc,hd,hs,hz,r⟩
 . obtain ⟨z,its,n,r,e⟩:=h.ok I.hok;exact ⟨its,r,⟨_,n,e,rfl,rfl,rfl⟩,z⟩
 . refine ⟨its.toList,r,⟨o,n,I.kIn a o hk,hc,hd,by simpa using hs⟩,?_⟩;have e:=r.length;simp only [aZ] at e
   lia
theorem Inv.tuple (I:Inv X pins σ H s) (h:SqT X.K H a xs):∃ its:List af,Vals xs its/\JP s.heap a its.toArray/\xs.length<=sizeLine:=by
 rcases h with h | ⟨o,its,n,hk,hc,hs,hz,r⟩
 . obtain ⟨z,its,r,p⟩:=h.ok I.hok;exact ⟨its,r,p,z⟩
 . refine ⟨its.toList,r,⟨o,I.kIn a o hk,hc,n,by simpa using hs⟩,?_⟩;have e:=r.length;simp only [aZ] at e
   lia
theorem Inv.list_inj (I:Inv X pins σ H s) (h:SqL X.K H a xs) (h':SqL X.K H a ys):xs = ys:=by
 obtain ⟨its,r,⟨o,n,e,_,_,d⟩,_⟩:=I.list h;obtain ⟨its',r',⟨o',n',e',_,_,d'⟩,_⟩:=I.list h';rw [e] at e';cases e';rw [d] at d';injection d' with d1 _;have:its = its':=by simpa using congrArg Array.toList d1
 subst this;exact r.inj r'
theorem Inv.tuple_inj (I:Inv X pins σ H s) (h:SqT X.K H a xs) (h':SqT X.K H a ys):xs = ys:=by
 obtain ⟨its,r,⟨o,e,_,n,d⟩,_⟩:=I.tuple h;obtain ⟨its',r',⟨o',e',_,n',d'⟩,_⟩:=I.tuple h';rw [e] at e';cases e';rw [d] at d';injection d' with d1 _;have:its = its':=by simpa using congrArg Array.toList d1
 subst this;exact r.inj r'
end
abbrev Cx.wish (X:Cx) (E:af->ai->Prop):Cx:={ X with xe:=E }
abbrev Cx.nox (X:Cx):Cx:=X.wish fun _ _=>False
theorem Cx.Ok.wish {X:Cx} (ok:X.Ok) (E:af->ai->Prop):(X.wish E).Ok :=
 ⟨ok.mod,ok.kind,ok.glob,ok.blt,ok.above,ok.inj,ok.has,ok.cab,ok.hd,ok.frames,ok.stk,ok.exf,ok.bs,ok.bsz,ok.noex,ok.exfs,ok.funs,ok.frf⟩
theorem Cx.Ok.unwish {X:Cx} {E:af->ai->Prop} (ok:(X.wish E).Ok):X.Ok :=
 ⟨ok.mod,ok.kind,ok.glob,ok.blt,ok.above,ok.inj,ok.has,ok.cab,ok.hd,ok.frames,ok.stk,ok.exf,ok.bs,ok.bsz,ok.noex,ok.exfs,ok.funs,ok.frf⟩
section
variable {X:Cx} {pins:List (aw × Obj)} {σ:St} {H:Hp} {s:ai} {E:af->ai->Prop}
theorem Inv.wish (I:Inv X pins σ H s) (E:af->ai->Prop):Inv (X.wish E) pins σ H s:=⟨I.ok.wish E,I.os,I.bare,I.base,I.loc,I.cell,I.free,I.freeC,I.pin,I.hok,I.len⟩
theorem Inv.unwish (I:Inv (X.wish E) pins σ H s):Inv X pins σ H s:=⟨I.ok.unwish,I.os,I.bare,I.base,I.loc,I.cell,I.free,I.freeC,I.pin,I.hok,I.len⟩
theorem SP.unwish {D:Ends} {f:Flow} {s':ai} (h:SP (X.wish E) pins D f s'):SP X pins D f s':=by
 cases f with
 | next=>obtain ⟨σ',H',I,q⟩:=h;exact ⟨σ',H',I.unwish,q⟩
 | brk=>obtain ⟨σ',H',I,q⟩:=h;exact ⟨σ',H',I.unwish,q⟩
 | cont=>obtain ⟨σ',H',I,q⟩:=h;exact ⟨σ',H',I.unwish,q⟩
 | ret u=>obtain ⟨v,σ',H',I,r,q⟩:=h;exact ⟨v,σ',H',I.unwish,r,q⟩
theorem PSs.nox {st:List de} {t:TS} (h:PSs X.nox st t):PSs X st t:=fun pins s σ H D I hw =>
 iV (h pins s σ H D (I.wish _) hw) (fun _ _ q=>q.unwish) fun _ _ z=>cI z
end
section
variable {X:Cx} {st:de} {rest:List de} {t u:TS} {e:aI} {te:TE} {pos:Pos}
noncomputable def NR:TS:=fun D σ H=>D.nx σ H
noncomputable def Pj (t u:TS):TS:=fun D σ H=>t { D with nx:=u D } σ H
theorem IL:PSs X [] NR:=fun _ _ σ H _ I h=>wpAny_execs_nil ⟨σ,H,I,h⟩
theorem EO (h1:PS X st t) (h2:PSs X rest u):PSs X (st::rest) (Pj t u):=by
 intro pins s σ H D I h;refine wpAny_execs_cons (thn (h1 pins s σ H { D with nx:=u D } I h) fun f s1 q=>?_)
 cases f with
 | next =>
   obtain ⟨σ',H',I',q⟩:=q
   exact h2 pins s1 σ' H' D I' q
 | ret v=>exact q
 | brk=>exact q
 | cont=>exact q
theorem Inv.quiet {pins:List (aw × Obj)} {σ:St} {H:Hp} {s:ai} (I:Inv X pins σ H s):interactive X.env = false:=by simp [interactive,I.ok.kind]
noncomputable def NS (te:TE):TS:=fun D σ H=>te σ H fun _ H1=>D.nx σ H1
theorem zP (he:PE X e te) (hs:swapsWith e none pos.line X.env = pure false:=by rfl):PS X (.Expr e pos) (NS te):=by
 intro pins s σ H D I h;exact wpAny_Expr_any (thn (he pins s σ H _ I h) fun v s1 ⟨x,H1,I1,r1,q1⟩=>⟨σ,H1,I1,q1⟩) I.quiet hs
noncomputable def Pk (te:TE):TS:=fun D σ H=>te σ H D.rt
theorem LI (he:PE X e te):PS X (.Return (some e) pos) (Pk te):=by
 intro pins s σ H D I h;exact Ny (thn (he pins s σ H _ I h) fun v s1 ⟨x,H1,I1,r1,q1⟩=>⟨x,σ,H1,I1,r1,q1⟩)
noncomputable def Pp (c:TT) (t u:TS):TS:=fun D σ H=>c σ H fun b H1=>if b = true then t D σ H1 else u D σ H1
theorem Og {c:aI} {a b:List de} {tc:TT} (hc:PT X c tc) (ha:PSs X a t) (hb:PSs X b u):PS X (.If c a b pos) (Pp tc t u):=by
 intro pins s σ H D I h;refine wpAny_If (thn (hc pins s σ H _ I h) fun d s1 ⟨H1,I1,q1⟩=>?_)
 cases d with
 | true=>exact ha pins s1 σ H1 D I1 q1
 | false=>exact hb pins s1 σ H1 D I1 q1
end
abbrev TG:=V->St->Hp->(St->Hp->Prop)->Prop
abbrev TGs:=List V->St->Hp->(St->Hp->Prop)->Prop
noncomputable def PG (X:Cx) (target:aI) (t:TG):Prop :=
 ∀ (pins:List (aw × Obj)) (s:ai) (σ:St) (H:Hp) (v:V) (u:af) (Q:St->Hp->Prop),Inv X pins σ H s->RelV v u->t v σ H Q ->
  wpAny (model X.prog X.w) X.A (assign target X.env u) (fun _ s'=>∃ σ' H',Inv X pins σ' H' s'/\Q σ' H') X.xe s
noncomputable def PGs (X:Cx) (ts:List aI) (t:TGs):Prop :=
 ∀ (pins:List (aw × Obj)) (s:ai) (σ:St) (H:Hp) (vs:List V) (us:List af) (Q:St->Hp->Prop),Inv X pins σ H s->Vals vs us->t vs σ H Q ->
  wpAny (model X.prog X.w) X.A (assignInOrder ((assignEach ts X.env).map (·.2)) us) (fun _ s'=>∃ σ' H',Inv X pins σ' H' s'/\Q σ' H') X.xe s
abbrev Nq:=V->V->V->Hp->(Hp->Prop)->Prop
noncomputable def OV (X:Cx) (t:Nq):Prop :=
 ∀ (pins:List (aw × Obj)) (s:ai) (σ:St) (H:Hp) (o i v:V) (ov iv u:af) (Q:Hp->Prop),Inv X pins σ H s->RelV o ov->RelV i iv->RelV v u->t o i v H Q ->
  wpAny (model X.prog X.w) X.A (setItem ov iv u) (fun _ s'=>∃ H',Inv X pins σ H' s'/\Q H') X.xe s
section
variable {X:Cx} {pos:Pos}
noncomputable def xj (i:Nat):TG:=fun v σ H Q=>Q (σ.set i (some v)) H
theorem zR (hN:X.N.Nodup) (hi:X.N[i]? = some x) (hx:Loc X.env.scope x) (hf:X.fn x = true\/X.env.scope.names.lookup x = some .local:=by first | exact .inl rfl | exact .inr rfl | assumption):PG X (.Name x pos) (xj i):=by
 intro pins s σ H v u Q I r h;exact Nx (kN I hN hi hx r (fun s' I'=>⟨_,H,I',h⟩) hf)
noncomputable def OM:TGs:=fun vs σ H Q=>vs = []/\Q σ H
noncomputable def Kc (t:TG) (u:TGs):TGs:=fun vs σ H Q=>∃ v r,vs = v::r/\t v σ H fun σ' H'=>u r σ' H' Q
theorem IQ:PGs X [] OM:=by
 intro pins s σ H vs us Q I r h;obtain ⟨e,h⟩:=h;subst e;cases r;exact NA ⟨σ,H,I,h⟩
theorem EW {e:aI} {es:List aI} {t:TG} {u:TGs} (h1:PG X e t) (h2:PGs X es u)
 (hs:(assignEach (e::es) X.env).map (·.2) = assign e X.env::(assignEach es X.env).map (·.2):=by rfl):PGs X (e::es) (Kc t u):=by
 intro pins s σ H vs us Q I r h;obtain ⟨v,vr,e1,h⟩:=h;subst e1
 cases r with
 | cons r rr =>
   rw [hs];refine rS (thn (h1 pins s σ H _ _ _ I r h) fun _ s1 ⟨σ1,H1,I1,q1⟩=>?_);exact h2 pins s1 σ1 H1 _ _ Q I1 rr q1
noncomputable def Qc (K:PySem.W.Frag) (n:Nat) (t:TGs):TG:=fun v σ H Q=>∃ a xs,v = .ref a/\SqT K H a xs/\xs.length = n/\t xs σ H Q
theorem LN (hc:X.calm = true) (h:PGs X es t)
 (hn:(assignEach es X.env).length = n:=by rfl) (hst:(assignEach es X.env).findIdx? (·.1) = none:=by rfl):PG X (.Tuple es k pos) (Qc X.K n t):=by
 intro pins s σ H v u Q I r hw;obtain ⟨a,xs,e1,hq,hl,hw⟩:=hw;subst e1;cases r;obtain ⟨its,rv,ht,hz⟩:=I.tuple hq;refine assign_Tuple_tuple (I.ok.hd hc) ht (by simp [hn,<- hl,rv.length]) hst fun h' hx=>?_;have I1:Inv X pins σ H { s with heap:=h' }:=I.kept (t':=s.toks) fun b o e=>hx b o (aJ (az e)) e;exact h pins _ σ H xs _ Q I1 (by simpa using rv) hw
noncomputable def Qd (to ti:TE) (t:Nq):TG:=fun v σ H Q=>to σ H fun o H1=>ti σ H1 fun i H2=>t o i v H2 fun H3=>Q σ H3
theorem LO {o i:aI} {to ti:TE} {t:Nq} (ho:PE X o to) (hi:PE X i ti) (hs:OV X t)
 (ha:∀ v,assign (.Subscript o i pos) X.env v = (do
   let ov <- holding [v] (eval o X.env)
   let iv <- holding [v,ov] (eval i X.env)
   standAt pos
   holding [v,ov,iv] (setItem ov iv v)
   release [v,ov,iv] []):=by intro _;rfl):PG X (.Subscript o i pos) (Qd to ti t):=by
 intro pins s σ H v u Q I r h;rw [ha];refine ab (bO (thn (ho pins s σ H _ I h) fun ov s1 ⟨x,H1,I1,r1,q1⟩=>?_));refine ab (bO (thn (hi pins s1 σ H1 _ I1 q1) fun iv s2 ⟨y,H2,I2,r2,q2⟩=>?_));refine ab (fG (ab (bO (thn (hs pins s2 σ H2 x y v ov iv u _ I2 r1 r2 r q2) fun _ s3 ⟨H3,I3,q3⟩=>?_))));exact wpAny_release ⟨σ,H3,I3,q3⟩
noncomputable def HS (te:TE) (g:TG):TS:=fun D σ H=>te σ H fun x H1=>g x σ H1 D.nx
theorem ET {tg e:aI} {te:TE} {g:TG} (he:PE X e te) (hg:PG X tg g) (hs:swapsWithSole [tg] e pos.line X.env = pure false:=by rfl) (hw:swappedStores [tg] e X.env = pure none:=by rfl)
 (h1:(assignEach [tg] X.env).map (·.2) = [assign tg X.env]:=by rfl):PS X (.Assign [tg] e pos) (HS te g):=by
 intro pins s σ H D I h;refine wpAny_Assign_stores (thn (he pins s σ H _ I h) fun v s1 ⟨x,H1,I1,r1,q1⟩=>?_) hs hw;rw [h1];exact thn (hg pins s1 σ H1 x v _ I1 r1 q1) fun _ s2 q=>q
theorem LH {i:Nat} {x:Str} {e:aI} {te:TE} {pos':Pos} (hN:X.N.Nodup) (hi:X.N[i]? = some x) (hx:Loc X.env.scope x) (he:PE X e te) (hs:swapsWith e (some (.Name x pos')) pos.line X.env = pure false:=by rfl) (hf:X.fn x = true\/X.env.scope.names.lookup x = some .local:=by first | exact .inl rfl | exact .inr rfl | assumption) :
 PS X (.Assign [.Name x pos'] e pos) (HS te (xj i)):=by
 intro pins s σ H D I h;refine wpAny_Assign_Name (thn (he pins s σ H _ I h) fun v s1 ⟨y,H1,I1,r1,q1⟩=>?_) hs;exact kN I1 hN hi hx r1 (fun s2 I2=>⟨_,H1,I2,q1⟩) hf
noncomputable def Pl (i j:Nat) (ta:TA):TS:=fun D σ H=>ta σ H fun vs H1=>∃ v w,vs = [v,w]/\D.nx ((σ.set i (some v)).set j (some w)) H1
theorem LJ {i j:Nat} {x y:Str} {a b:aI} {ta:TA} {px py pt:Pos} {kt k2 pt2} (hc:X.calm = true) (hN:X.N.Nodup) (hi:X.N[i]? = some x) (hj:X.N[j]? = some y) (hij:i≠j)
 (hx:X.env.scope.names.lookup x = some .local) (hy:X.env.scope.names.lookup y = some .local) (ha:PA X [a,b] ta)
 (hw:swappedStores [.Tuple [.Name x px,.Name y py] kt pt] (.Tuple [a,b] k2 pt2) X.env = pure (some [x,y]))
 (hs:swapsWithSole [.Tuple [.Name x px,.Name y py] kt pt] (.Tuple [a,b] k2 pt2) pos.line X.env = pure false:=by rfl) :
 PS X (.Assign [.Tuple [.Name x px,.Name y py] kt pt] (.Tuple [a,b] k2 pt2) pos) (Pl i j ta):=by
 intro pins s σ H D I h;rw [exec_Assign_arm];refine ab (fG ?_);rw [hs];refine ab (ak ?_);rw [if_neg (by decide)];refine ab (Tuple_ (thn (ha _ pins s σ H _ I h) fun us s1 ⟨vs,H1,I1,r1,q1⟩=>?_));obtain ⟨v,w,e1,q1⟩:=q1;subst e1
 obtain ⟨u1,u2,rfl,rv,rw'⟩:∃ u1 u2,us = [u1,u2]/\RelV v u1/\RelV w u2:=by
  cases r1 with
  | cons p q =>
    cases q with
    | cons p' q' =>
      cases q';exact ⟨_,_,rfl,p,p'⟩
 refine bt ?_ (by show 2<=sizeLine;decide);have I2:Inv X pins σ H1 { s1 with heap:=s1.heap.push { cls:=.type "tuple",data:=.seq [u1,u2].toArray } }:=I1.kept (t':=s1.toks) fun b o e=>ag _ e;rw [hw];refine ab (ak ?_);show wpAny (model X.prog X.w) X.A (do rule "assign.swapped-stores";let items <- unpackItems (.ref s1.heap.objs.size) 2 none;assignInOrder [fun v=>bindName X.env y v,fun v=>bindName X.env x v] items.reverse;pure Flow.next) _ _ _;refine ab (gQ (ab (unpackItems_tuple (items := #[u1,u2]) (I.ok.hd hc) (vF s1.heap _) fun h' hx'=>?_)));have I3:=I2.kept (h':=h') (t':=s1.toks) fun b o e=>hx' b o (aJ (az e)) e;show wpAny _ _ (assignInOrder [fun v=>bindName X.env y v,fun v=>bindName X.env x v] [u2,u1] >>= fun _=>pure Flow.next) _ _ _;refine ab (rS (wpAny_bindName (kN I3 hN hj (.inl hy) rw' (fun s2 I4=>?_) (.inr hy))));refine rS (wpAny_bindName (kN I4 hN hi (.inl hx) rv (fun s3 I5=>NA (ak ?_)) (.inr hx)));rw [List.set_comm _ _ (Ne.symm hij)] at I5;exact ⟨_,H1,I5,q1⟩
end
section
variable {X:Cx} {pos:Pos}
end
structure It where
 go:Nat->Hp->Prop
 yld:Nat->Hp->V->Hp->Prop
 stop:Nat->Hp->Prop
noncomputable def kq (X:Cx) (pins:List (aw × Obj)) (H:Hp) (b:aw):Prop :=
 H b = none/\b≠X.env.locals/\b∉X.fs/\(b∈X.ex\/X.s₀.heap.objs.size<=b)/\(∀ x c,X.env.cells.lookup x = some c->c≠b)/\∀ p∈X.pn++pins,p.1≠b
theorem Inv.fpOk (I:Inv X pins σ H s) (hb:s.heap.objs.size<=b) (hn:H' b = none):kq X pins H' b:=by
 refine ⟨hn,eY (aW I.lt hb),I.nofs hb,.inr (aX I.sz hb),fun x c e z=>?_,fun p hp z=>?_⟩
 . obtain ⟨v,q⟩:=I.cell x c e;exact absurd (aW q.lt (by rw [z];exact hb)) (cy _)
 . exact absurd (aW (az (I.pin p hp).1) (by rw [z];exact hb)) (cy _)
structure Turn (P:aR) (w:bf) (K:PySem.W.Frag) (tg:aI) (J:It) (fp:List aw) (it:aw) (tn:Nat->bK->Prop):Prop where
 mem:it∈fp
 obj:∀ i h,tn i h->∀ b∈fp,∃ o,h.get? b = some o/\∀ v,o.data≠.cell v
 keep:∀ i h h',tn i h->(∀ b∈fp,∀ o,h.get? b = some o->h'.get? b = some o)->tn i h'
 item:∀ (X:Cx),X.prog = P->X.w = w->X.K = K->X.calm = true->∀ (i:Nat) (pins:List (aw × Obj)) (s:ai) (σ:St) (H:Hp) (E:af->ai->Prop),Inv X pins σ H s->(∀ b∈fp,kq X pins H b)->tn i s.heap->J.go i H ->
  wpAny (model P w) X.A (pyNext (.ref it)) (fun r s1=>∃ u,r = some u /\
   wpAny (model P w) X.A (letOwnedTupleGo tg (.ref it) u) (fun _ s2=>∃ x H',Inv X pins σ H' s2/\RelV x u/\J.yld i H x H'/\tn (i+1) s2.heap/\∀ b∈fp,H' b = none) E s1) E s
 done:∀ (X:Cx),X.prog = P->X.w = w->X.K = K->X.calm = true->∀ (i:Nat) (pins:List (aw × Obj)) (s:ai) (σ:St) (H:Hp) (E:af->ai->Prop),Inv X pins σ H s->(∀ b∈fp,kq X pins H b)->tn i s.heap->J.stop i H ->
  wpAny (model P w) X.A (pyNext (.ref it)) (fun r s1=>r = none/\Inv X pins σ H s1) E s
 self:∀ (A:ba) (i:Nat) (s:ai) (Q:af->ai->Prop) (E:af->ai->Prop),tn i s.heap->Q (.ref it) s->wpAny (model P w) A (pyIter (.ref it)) Q E s
abbrev TI:=St->Hp->(It->Hp->Prop)->Prop
noncomputable def PIE (X:Cx) (pins:List (aw × Obj)) (σ:St) (tg:aI) (R:It->Hp->Prop) (itv:af) (s2:ai):Prop :=
 ∃ (it:aw) (fp:List aw) (tn:Nat->bK->Prop) (J:It) (H':Hp),itv = .ref it/\Inv X pins σ H' s2/\Turn X.prog X.w X.K tg J fp it tn/\tn 0 s2.heap/\(∀ b∈fp,kq X pins H' b)/\R J H'
noncomputable def PI (X:Cx) (tg iter:aI) (wi:TI):Prop :=
 ∀ (pins:List (aw × Obj)) (s:ai) (σ:St) (H:Hp) (R:It->Hp->Prop),Inv X pins σ H s->wi σ H R ->
  wpAny (model X.prog X.w) X.A (eval iter X.env) (fun v s1=>wpAny (model X.prog X.w) X.A (pyIter v) (PIE X pins σ tg R) X.xe s1) X.xe s
theorem Ar (ho:s.heap.get? it = some o) (hc:o.cls = .type n) (hd:o.data = .fields vs)
 (hn:["enumerate","zip","dict_itemiterator","dict_reverseitemiterator","odict_iterator","itertools.zip_longest","itertools.pairwise"].contains n = false) (hQ:Q () s):wpAny M A (letOwnedTupleGo tg (.ref it) u) Q E s:=by
 unfold letOwnedTupleGo
 cases tg<;>first
  | exact ak hQ
  | (cases u<;>first
      | exact ak hQ
      | (refine ab (wpAny_load ho ?_)
         rw [hc,hd];show wpAny M A (if (["enumerate","zip","dict_itemiterator","dict_reverseitemiterator","odict_iterator","itertools.zip_longest","itertools.pairwise"].contains n && vs[0]? == some (rawInt _)) = true then _ else _) Q E s;rw [if_neg (by intro h;rw [hn,Bool.false_and] at h;cases h)];exact ak hQ))
noncomputable def Itl (K:PySem.W.Frag) (a:aw):It :=
 ⟨fun i H=>∃ xs x,SqL K H a xs/\xs[i]? = some x,fun i H x H'=>H' = H/\∀ xs,SqL K H a xs->xs[i]? = some x,fun i H=>∃ xs,SqL K H a xs/\xs.length<=i⟩
noncomputable def Itt (K:PySem.W.Frag) (a:aw):It :=
 ⟨fun i H=>∃ xs x,SqT K H a xs/\xs[i]? = some x,fun i H x H'=>H' = H/\∀ xs,SqT K H a xs->xs[i]? = some x,fun i H=>∃ xs,SqT K H a xs/\xs.length<=i⟩
noncomputable def Itr (lo:Int) (n:Nat):It:=⟨fun i _=>i < n,fun i H x H'=>H' = H/\x = .int (lo+i),fun i _=>n<=i⟩
theorem BB {P:aR} {w:bf} {K:PySem.W.Frag} {tg:aI} (a it:aw):Turn P w K tg (Itl K a) [it] it (fun i h=>h.IsListIter it a i) where
 mem:=by simp
 obj:=fun i h st b hb=>by
  have e:b = it:=by simpa using hb
  subst e;obtain ⟨o,e,c,d⟩:=st;exact ⟨o,e,fun v z=>by rw [d] at z;cases z⟩
 keep:=fun i h h' st k=>st.at fun o e=>k it (by simp) o e
 item:=by
  intro X hP hw hK hc i pins s σ H E I hf st hg;subst hP hw hK;obtain ⟨xs,x,hq,hx⟩:=hg;obtain ⟨its,rv,p,hz⟩:=I.list hq;obtain ⟨u,hu,ru⟩:=rv.get hx;obtain ⟨f0,f1,f2,f3,f4,f5⟩:=hf it (by simp);refine wpAny_pyNext_list_item st p.isList (x:=u) (by simpa using hu) fun h' st' sb=>?_;have I1:Inv X pins σ H { s with heap:=h' }:=I.turned (t':=s.toks) (fun b o hb e=>(sb.2 b hb).trans e) f0 f1 f3 f4 f5;obtain ⟨o,e,c,d⟩:=id st';exact ⟨u,rfl,Ar (s:={ s with heap:=h' }) e c d (by decide) ⟨x,H,I1,ru,⟨rfl,fun ys hy=>by rw [I.list_inj hy hq];exact hx⟩,st',fun b hb=>(hf b hb).1⟩⟩
 done:=by
  intro X hP hw hK hc i pins s σ H E I hf st hg;subst hP hw hK;obtain ⟨xs,hq,hx⟩:=hg;obtain ⟨its,rv,p,hz⟩:=I.list hq;obtain ⟨f0,f1,f2,f3,f4,f5⟩:=hf it (by simp);have hl:=rv.length;exact wpAny_pyNext_list_end (I.ok.hd hc) st p.isList (by simp;lia) fun h' eb=>⟨rfl,I.turned (t':=s.toks) (fun b o hb e=>eb b o hb e) f0 f1 f3 f4 f5⟩
 self:=fun _ _ _ _ _ st h=>wpAny_pyIter_listiter st h
theorem yo {P:aR} {w:bf} {K:PySem.W.Frag} {tg:aI} (a it:aw):Turn P w K tg (Itt K a) [it] it (fun i h=>h.IsTupleIter it a i) where
 mem:=by simp
 obj:=fun i h st b hb=>by
  have e:b = it:=by simpa using hb
  subst e;obtain ⟨o,e,c,d⟩:=st;exact ⟨o,e,fun v z=>by rw [d] at z;cases z⟩
 keep:=fun i h h' st k=>st.at fun o e=>k it (by simp) o e
 item:=by
  intro X hP hw hK hc i pins s σ H E I hf st hg;subst hP hw hK;obtain ⟨xs,x,hq,hx⟩:=hg;obtain ⟨its,rv,p,hz⟩:=I.tuple hq;obtain ⟨u,hu,ru⟩:=rv.get hx;obtain ⟨f0,f1,f2,f3,f4,f5⟩:=hf it (by simp);refine wpAny_pyNext_tuple_item st (show s.heap.IsTuple a its.toArray from p) (x:=u) (by simpa using hu) fun h' st' sb=>?_;have I1:Inv X pins σ H { s with heap:=h' }:=I.turned (t':=s.toks) (fun b o hb e=>(sb.2 b hb).trans e) f0 f1 f3 f4 f5;obtain ⟨o,e,c,d⟩:=id st';exact ⟨u,rfl,Ar (s:={ s with heap:=h' }) e c d (by decide) ⟨x,H,I1,ru,⟨rfl,fun ys hy=>by rw [I.tuple_inj hy hq];exact hx⟩,st',fun b hb=>(hf b hb).1⟩⟩
 done:=by
  intro X hP hw hK hc i pins s σ H E I hf st hg;subst hP hw hK;obtain ⟨xs,hq,hx⟩:=hg;obtain ⟨its,rv,p,hz⟩:=I.tuple hq;obtain ⟨f0,f1,f2,f3,f4,f5⟩:=hf it (by simp);have hl:=rv.length;exact wpAny_pyNext_tuple_end (I.ok.hd hc) st (show s.heap.IsTuple a its.toArray from p) (by simp;lia) fun h' eb=>⟨rfl,I.turned (t':=s.toks) (fun b o hb e=>eb b o hb e) f0 f1 f3 f4 f5⟩
 self:=fun _ _ _ _ _ st h=>wpAny_pyIter_tupleiter st h
theorem yp {P:aR} {w:bf} {K:PySem.W.Frag} {tg:aI} (it:aw) (lo:Int) (n:Nat):Turn P w K tg (Itr lo n) [it] it (fun i h=>IsRangeIter h it (lo+(i:Nat) * 1) ((n:Int) - (i:Nat)) 1) where
 mem:=by simp
 obj:=fun i h st b hb=>by
  have e:b = it:=by simpa using hb
  subst e
  exact ⟨_,st,fun v z=>by
   have z':Data.fields _ = Data.cell v:=z;cases z'⟩
 keep:=fun i h h' st k=>k it (by simp) _ st
 item:=by
  intro X hP hw hK hc i pins s σ H E I hf st hg;subst hP hw hK;obtain ⟨f0,f1,f2,f3,f4,f5⟩:=hf it (by simp);have W:=Walks.range (prog:=X.prog) (w:=X.w) (I.ok.hd hc) it lo 1 n;refine W.item i s _ _ hg st fun v h' tk hv st' kk=>?_;obtain ⟨t,rfl⟩:=hv;have I1:Inv X pins σ H { s with heap:=h',toks:=tk }:=I.turned (fun b o hb e=>kk b o (by simpa using hb) e) f0 f1 f3 f4 f5;refine ⟨_,rfl,Ar (s:={ s with heap:=h',toks:=tk }) (n:="range_iterator") st' rfl rfl (by decide) ⟨.int (lo+i),H,I1,⟨t,?_⟩,⟨rfl,rfl⟩,st',fun b hb=>(hf b hb).1⟩⟩;rw [Int.mul_one]
 done:=by
  intro X hP hw hK hc i pins s σ H E I hf st hg;subst hP hw hK;obtain ⟨f0,f1,f2,f3,f4,f5⟩:=hf it (by simp);exact wpAny_pyNext_range_end (I.ok.hd hc) st (by have:n<=i:=hg;lia) fun h' eb=>⟨rfl,I.turned (t':=s.toks) (fun b o hb e=>eb b o hb e) f0 f1 f3 f4 f5⟩
 self:=fun _ _ _ _ _ st h=>wpAny_pyIter_rangeiter st h
end L2
namespace L2
open PySem PySem.Spec PyProof.Rows
section
variable {X:Cx} {tg:aI}
theorem EF {pins:List (aw × Obj)} {σ:St} {H:Hp} {s:ai} {R:It->Hp->Prop} {E:af->ai->Prop} {lo hi:Int} {t u v:Tok} {tk:Nat} (I:Inv X pins σ H s) (h1:-(2 ^ 62)<=lo) (h2:lo < 2 ^ 62) (h3:-(2 ^ 62)<=hi) (h4:hi < 2 ^ 62)
 (q:R (Itr lo (hi - lo).toNat) H):wpAny (model X.prog X.w) X.A (pyIter (.ref s.heap.objs.size)) (PIE X pins σ tg R) E { s with heap:=s.heap.push { cls:=.type "range",data:=.fields #[.int lo t,.int hi u,.int 1 v] },toks:=tk }:=by
 refine wpAny_pyIter_range (IsRange.new ..) (small_one h1 h2 h3 h4) ?_;have I1:Inv X pins σ H { s with heap:=s.heap.push { cls:=.type "range",data:=.fields #[.int lo t,.int hi u,.int 1 v] },toks:=tk }:=I.kept fun b o e=>ag _ e
 refine ⟨(s.heap.push { cls:=.type "range",data:=.fields #[.int lo t,.int hi u,.int 1 v] }).objs.size,[(s.heap.push { cls:=.type "range",data:=.fields #[.int lo t,.int hi u,.int 1 v] }).objs.size],_,_,H,rfl,
  I1.kept (t':=tk) fun b o e=>ag _ e,yp _ lo (hi - lo).toNat,?_,fun b hb=>?_,q⟩
 . have e1:lo+((0:Nat):Int) * 1 = lo:=by simp
   have e2:(((hi - lo).toNat:Nat):Int) - ((0:Nat):Int) = Builtin.Range.rangeSize lo hi 1:=by rw [rangeSize_one];split<;>lia
   show IsRangeIter _ _ (lo+((0:Nat):Int) * 1) ((((hi - lo).toNat:Nat):Int) - ((0:Nat):Int)) 1;rw [e1,e2];exact aE _ rfl
 . have e:b = (s.heap.push { cls:=.type "range",data:=.fields #[.int lo t,.int hi u,.int 1 v] }).objs.size:=by simpa using hb
   subst e;exact I1.fpOk (aA _) (I1.hok.fresh (aA _))
noncomputable def OJ (ta:TA):TI:=fun σ H R=>ta σ H fun vs H1=>∃ j:Int,vs = [.int j]/\-(2 ^ 62)<=j/\j < 2 ^ 62/\R (Itr 0 j.toNat) H1
theorem BV {a:aI} {ta:TA} {p pos:Pos} (hg:Gl X "range") (hm:X.mg "range" = none) (ha:PA X [a] ta) (hs:starEach [a] X.env = [(false,eval a X.env)]:=by rfl):PI X tg (.Call (.Name "range" p) [a] [] pos) (OJ ta):=by
 intro pins s σ H R I h;refine Call_ (rk I hg hm boot_range (hV (thn (ha pos pins s σ H _ I h) fun us s1 ⟨vs,H1,I1,r1,q1⟩=>?_) hs rfl));obtain ⟨j,e,q1,q2,q⟩:=q1;subst e
 cases r1 with
 | cons r rr =>
   cases rr;obtain ⟨t,rfl⟩:=r;exact call_range_1 (EF I1 (by lia) (by lia) q1 q2 (by simpa using q))
noncomputable def Pq (wi:TI) (g:TG) (tb:TS):TS:=fun D σ H=>wi σ H fun J H1=>∃ W:Nat->Nat->St->Hp->Prop,(∃ m,W 0 m σ H1)/\∀ i m σ H,W i m σ H ->
 (J.stop i H/\D.nx σ H)\/(J.go i H/\∃ N:St->Hp->Prop,(∀ σ' H',N σ' H'->∃ m',m' < m/\W (i+1) m' σ' H')/\∀ x H',J.yld i H x H'->g x σ H' fun σ2 H2=>tb { D with nx:=N,ct:=N,bk:=D.nx } σ2 H2)
noncomputable def qQ (fp:List aw) (h:bK):List (aw × Obj):=fp.filterMap fun b=>(h.get? b).map fun o=>(b,o)
theorem jX (hb:b∈fp) (e:h.get? b = some o):(b,o)∈qQ fp h:=nZ.mpr ⟨b,hb,by rw [e];rfl⟩
theorem Cd (hp:p∈qQ fp h):p.1∈fp/\h.get? p.1 = some p.2:=by
 obtain ⟨b,hb,e⟩:=nZ.mp hp
 cases q:h.get? b with
 | none=>rw [q] at e;cases e
 | some o =>
   rw [q] at e;have e':(b,o) = p:=aY e;subst e';exact ⟨hb,q⟩
theorem Inv.pinned (I:Inv X pins σ H s) (hf:∀ b∈fp,kq X pins H b) (ho:∀ b∈fp,∃ o,s.heap.get? b = some o/\∀ v,o.data≠.cell v):Inv X (pins++qQ fp s.heap) σ H s :=
 I.pins_of fun p hp=>(br.mp hp).elim (fun z=>I.pin p (aV _ z)) fun z=>by
  obtain ⟨hb,e⟩:=Cd z;obtain ⟨f0,f1,f2,_⟩:=hf p.1 hb;obtain ⟨o,e',d⟩:=ho p.1 hb;rw [e] at e';cases e';exact ⟨e,f0,f1,f2,d⟩
theorem Inv.unpinned (I:Inv X (pins++pl) σ H s):Inv X pins σ H s:=I.pins_of fun p hp=>I.pin p (aV _ (cJ _ hp))
theorem ES (hp:PassesOwn (model X.prog X.w) X.A X.env X.xe) (hc:X.calm = true) (hi:PI X tg iter wi) (hg:PG X tg g) (hb:PSs X body tb)
 (hs:∀ x,foldedSetIterable iter X.env x = pure x:=by intro _;rfl):PS X (.For tg iter body [] pos) (Pq wi g tb):=by
 intro pins s σ H D I h;refine wpAny_For (thn (hi pins s σ H _ I h) fun v s1 h1=>thn h1 fun itv s2 h2=>?_) hs;obtain ⟨it,fp,tn,J,H2,e,I2,T,st2,f2,W,⟨m0,w0⟩,turn⟩:=h2;subst e
 -- what stays true of the iterator's objects through the loop
 have stat:∀ {H':Hp},(∀ b∈fp,H' b = none)->∀ b∈fp,kq X pins H' b:=fun hn b hb=>⟨hn b hb,(f2 b hb).2⟩;refine codeAny_forLoop_any (fun n s'=>∃ i σ' H',Inv X pins σ' H' s'/\tn i s'.heap/\(∀ b∈fp,H' b = none)/\W i n σ' H') ?_ m0 ⟨0,σ,H2,I2,st2,fun b hb=>(f2 b hb).1,w0⟩;rintro n s3 ⟨i,σ3,H3,I3,st3,fr3,w3⟩;rcases turn i n σ3 H3 w3 with ⟨stop,qn⟩ | ⟨go,N,hN,step⟩
 . refine jr hp (thn (T.done X rfl rfl rfl hc i pins s3 σ3 H3 X.xe I3 (stat fr3) st3 stop) fun r s4 ⟨hr,I4⟩=>?_);subst hr;exact wpAny_execs_nil ⟨σ3,H3,I4,qn⟩
 . refine jr hp (thn (T.item X rfl rfl rfl hc i pins s3 σ3 H3 X.xe I3 (stat fr3) st3 go) fun r s4 ⟨u,hr,h4⟩=>?_);subst hr;refine jr hp (thn h4 fun _ s5 ⟨x,H5,I5,r5,y5,st5,fr5⟩=>?_);have I5':=I5.pinned (stat fr5) (T.obj _ _ st5);refine jr hp (thn (hg _ s5 σ3 H5 x u _ I5' r5 (step x H5 y5)) fun _ s6 ⟨σ6,H6,I6,q6⟩=>?_);refine jr hp (thn (hb _ s6 σ6 H6 _ I6 q6) fun f s7 q7=>?_)
   have again:∀ {σ7:St} {H7:Hp},Inv X (pins++qQ fp s5.heap) σ7 H7 s7->N σ7 H7->∃ m,m < n/\∃ i σ' H',Inv X pins σ' H' s7/\tn i s7.heap/\(∀ b∈fp,H' b = none)/\W i m σ' H':=fun {σ7 H7} I7 n7=>by
    obtain ⟨m',hm,w7⟩:=hN σ7 H7 n7;refine ⟨m',hm,i+1,σ7,H7,I7.unpinned,T.keep _ _ _ st5 fun b hb o e=>(I7.pin (b,o) (aV _ (aV _ (jX hb e)))).1,fun b hb=>?_,w7⟩;obtain ⟨o,e,d⟩:=T.obj _ _ st5 b hb;exact (I7.pin (b,o) (aV _ (aV _ (jX hb e)))).2.1
   cases f with
   | next=>obtain ⟨σ7,H7,I7,n7⟩:=q7;exact again I7 n7
   | cont=>obtain ⟨σ7,H7,I7,n7⟩:=q7;exact again I7 n7
   | brk=>obtain ⟨σ7,H7,I7,q7⟩:=q7;exact ⟨σ7,H7,I7.unpinned,q7⟩
   | ret v=>obtain ⟨x7,σ7,H7,I7,r7,q7⟩:=q7;exact ⟨x7,σ7,H7,I7.unpinned,r7,q7⟩
end
end L2
namespace L2
open PySem PySem.Spec PyProof.Rows
abbrev R2:=V->V->Hp->VK->Prop
noncomputable def OpR (X:Cx) (f:af->af->Sem af) (r:R2):Prop :=
 ∀ (pins:List (aw × Obj)) (s:ai) (σ:St) (H:Hp) (x y:V) (v u:af) (Q:VK),Inv X pins σ H s->RelV x v->RelV y u->r x y H Q ->
  wpAny (model X.prog X.w) X.A (f v u) (EP X pins σ Q) X.xe s
noncomputable def UnR (X:Cx) (f:af->Sem af) (r:V->Hp->VK->Prop):Prop :=
 ∀ (pins:List (aw × Obj)) (s:ai) (σ:St) (H:Hp) (x:V) (v:af) (Q:VK),Inv X pins σ H s->RelV x v->r x H Q ->
  wpAny (model X.prog X.w) X.A (f v) (EP X pins σ Q) X.xe s
noncomputable def cL (X:Cx) (f:af) (r:List V->Hp->VK->Prop):Prop :=
 ∀ (pins:List (aw × Obj)) (s:ai) (σ:St) (H:Hp) (xs:List V) (us:List af) (Q:VK),Inv X pins σ H s->Vals xs us->r xs H Q ->
  wpAny (model X.prog X.w) X.A (call f us) (EP X pins σ Q) X.xe s
noncomputable def Qj (X:Cx) (r:V->Hp->(Bool->Hp->Prop)->Prop):Prop :=
 ∀ (pins:List (aw × Obj)) (s:ai) (σ:St) (H:Hp) (x:V) (v:af) (Q:Bool->Hp->Prop),Inv X pins σ H s->RelV x v->r x H Q ->
  wpAny (model X.prog X.w) X.A (truthy v) (TP X pins σ Q) X.xe s
noncomputable def tOp (r:R2) (ta tb:TE):TE:=fun σ H Q=>ta σ H fun x H1=>tb σ H1 fun y H2=>r x y H2 Q
noncomputable def tUn (r:V->Hp->VK->Prop) (ta:TE):TE:=fun σ H Q=>ta σ H fun x H1=>r x H1 Q
noncomputable def rI (C:Int->Int->Prop) (g:Int->Int->V):R2:=fun x y H Q=>∃ i j,x = .int i/\y = .int j/\C i j/\Q (g i j) H
noncomputable def rI0 (g:Int->Int->V):R2:=fun x y H Q=>∃ i j,x = .int i/\y = .int j/\Q (g i j) H
noncomputable def rU (g:Int->V):V->Hp->VK->Prop:=fun x H Q=>∃ i,x = .int i/\Q (g i) H
section
variable {X:Cx} {a b c:aI} {ta tb tc:TE} {pos:Pos}
theorem Nk (ha:PE X a ta) (hb:PE X b tb) {pins:List (aw × Obj)} {s:ai} {σ:St} {H:Hp} {R:V->V->Hp->Prop} (I:Inv X pins σ H s)
 (h:ta σ H fun x H1=>tb σ H1 fun y H2=>R x y H2) {Q:af->ai->Prop} {f:af->af->Sem af}
 (hf:∀ v u s2 x y H2,Inv X pins σ H2 s2->RelV x v->RelV y u->R x y H2->wpAny (model X.prog X.w) X.A (f v u) Q X.xe s2) :
 wpAny (model X.prog X.w) X.A (eval a X.env) (fun v s₁=>wpAny (model X.prog X.w) X.A (eval b X.env) (fun u s₂=>wpAny (model X.prog X.w) X.A (f v u) Q X.xe s₂) X.xe s₁) X.xe s:=by
 refine thn (ha pins s σ H _ I h) fun v s1 zz=>?_;obtain ⟨x,H1,I1,r1,q1⟩:=zz;refine thn (hb pins s1 σ H1 _ I1 q1) fun u s2 zz=>?_;obtain ⟨y,H2,I2,r2,q2⟩:=zz;exact hf v u s2 x y H2 I2 r1 r2 q2
theorem wJ {op:zj} {r:R2} (ho:OpR X (binaryOp op) r) (ha:PE X a ta) (hb:PE X b tb):PE X (.BinOp a op b pos) (tOp r ta tb):=by
 intro pins s σ H Q I h;exact wpAny_BinOp (Nk ha hb I h fun v u s2 x y H2 I2 rx ry q=>ho pins s2 σ H2 x y v u Q I2 rx ry q)
theorem Oi (ho:UnR X (unaryOp op) r) (ha:PE X a ta):PE X (.UnaryOp op a pos) (tUn r ta):=by
 intro pins s σ H Q I h;exact UnaryOp_ (thn (ha pins s σ H _ I h) fun v s1 ⟨x,H1,I1,r1,q1⟩=>ho pins s1 σ H1 x v Q I1 r1 q1)
theorem opI {f:af->af->Sem af} {C:Int->Int->Prop} {g:Int->Int->Int}
 (rule:∀ (i j:Int) (t u:Tok) (s:ai) (Q:af->ai->Prop) (E:af->ai->Prop),C i j->Q (.int (g i j) s.toks) { s with toks:=s.toks+1 }->wpAny (model X.prog X.w) X.A (f (.int i t) (.int j u)) Q E s) :
 OpR X f (rI C fun i j=>.int (g i j)):=by
 intro pins s σ H x y v u Q I rx ry h;obtain ⟨i,j,rfl,rfl,hc,q⟩:=h;obtain ⟨t,rfl⟩:=rx;obtain ⟨t',rfl⟩:=ry;exact rule i j t t' s _ _ hc ⟨.int (g i j),H,I.tok _,⟨_,rfl⟩,q⟩
theorem Ox {f:af->af->Sem af} {g:Int->Int->Int}
 (rule:∀ (i j:Int) (t u:Tok) (s:ai) (Q:af->ai->Prop) (E:af->ai->Prop),Q (.int (g i j) s.toks) { s with toks:=s.toks+1 }->wpAny (model X.prog X.w) X.A (f (.int i t) (.int j u)) Q E s) :
 OpR X f (rI0 fun i j=>.int (g i j)):=by
 intro pins s σ H x y v u Q I rx ry h;obtain ⟨i,j,rfl,rfl,q⟩:=h;obtain ⟨t,rfl⟩:=rx;obtain ⟨t',rfl⟩:=ry;exact rule i j t t' s _ _ ⟨.int (g i j),H,I.tok _,⟨_,rfl⟩,q⟩
theorem Oy {f:af->af->Sem af} {g:Int->Int->Bool}
 (rule:∀ (i j:Int) (t u:Tok) (s:ai) (Q:af->ai->Prop) (E:af->ai->Prop),Q (.bool (g i j)) s->wpAny (model X.prog X.w) X.A (f (.int i t) (.int j u)) Q E s) :
 OpR X f (rI0 fun i j=>.bl (g i j)):=by
 intro pins s σ H x y v u Q I rx ry h;obtain ⟨i,j,rfl,rfl,q⟩:=h;obtain ⟨t,rfl⟩:=rx;obtain ⟨t',rfl⟩:=ry;exact rule i j t t' s _ _ ⟨.bl (g i j),H,I,rfl,q⟩
theorem Mh:OpR X (binaryOp .Add) (rI0 fun i j=>.int (i+j)):=Ox fun _ _ _ _ _ _ _ q=>add_int q
theorem Mb:OpR X (binaryOp .Sub) (rI0 fun i j=>.int (i - j)):=Ox fun _ _ _ _ _ _ _ q=>sub_int q
theorem Md:OpR X (binaryOp .Mod) (rI (fun _ j=>0 < j) fun i j=>.int (i % j)):=opI fun i j _ _ _ _ _ hc q=>by
 have h1:(0:Int) < j:=hc;exact mod_int' (by lia) (by rw [Int.fmod_eq_emod_of_nonneg i (by lia)];exact q)
theorem unI {f:af->Sem af} {g:Int->Int}
 (rule:∀ (i:Int) (t:Tok) (s:ai) (Q:af->ai->Prop) (E:af->ai->Prop),Q (.int (g i) s.toks) { s with toks:=s.toks+1 }->wpAny (model X.prog X.w) X.A (f (.int i t)) Q E s) :
 UnR X f (rU fun i=>.int (g i)):=by
 intro pins s σ H x v Q I rx h;obtain ⟨i,rfl,q⟩:=h;obtain ⟨t,rfl⟩:=rx;exact rule i t s _ _ ⟨.int (g i),H,I.tok _,⟨_,rfl⟩,q⟩
theorem KW:UnR X (unaryOp .USub) (rU fun i=>.int (-i)):=unI fun _ _ _ _ _ q=>neg_int q
end
noncomputable def Py:V->V->Bool
 | .non,.non=>true | .non,.int _=>true | .int _,.non=>true | .non,.bl _=>true | .bl _,.non=>true | .non,.str _=>true | .str _,.non=>true
 | .int _,.int _=>true | .bl _,.bl _=>true | .str _,.str _=>true | .byt _,.byt _=>true
 | .int _,.str _=>true | .str _,.int _=>true | .bl _,.str _=>true | .str _,.bl _=>true
 | _,_=>false
noncomputable def rEq:R2:=fun x y H Q=>Py x y = true/\Q (.bl (decide (x = y))) H
theorem JA:decide (V.int i = V.int j) = (i == j):=by
 rw [dO];simp
theorem MU:decide (V.bl i = V.bl j) = (i == j):=by
 rw [dO];simp
theorem Jz:decide (V.str i = V.str j) = (i == j):=by
 rw [dO];simp
theorem JB:decide (V.byt i = V.byt j) = (i.toList == j.toList):=by
 rw [dO];cases i;cases j;simp
section
variable {X:Cx} {a b c:aI} {ta tb tc:TE} {pos:Pos}
theorem fM (I:Inv X pins σ H s) (q:Q (.bl k) H) (e:k = k'):EP X pins σ Q (.bool k') s:=by
 subst e;exact ⟨.bl k,H,I,rfl,q⟩
theorem Ov:OpR X (compareOp .Eq) rEq:=by
 intro pins s σ H x y v u Q I rx ry h;obtain ⟨hs,q⟩:=h
 cases x with
 | non =>
   cases rx
   cases y with
   | non=>cases ry;exact PySem.EqNone.eq_none_none (fM I q (by simp))
   | bl j=>cases ry;exact PySem.EqNone.eq_none_bool (fM I q (by simp))
   | int j=>obtain ⟨t',rfl⟩:=ry;exact PySem.EqNone.eq_none_int (fM I q (by simp))
   | str j=>obtain ⟨t',rfl⟩:=ry;exact PySem.EqNone.eq_none_str (fM I q (by simp))
   | _=>exact absurd (show false = true from hs) au
 | bl i =>
   cases rx
   cases y with
   | non=>cases ry;exact PySem.EqNone.eq_bool_none (fM I q (by simp))
   | bl j=>cases ry;exact eq_bool (fM I q MU)
   | str j=>obtain ⟨t',rfl⟩:=ry;exact PySem.EqMixed.eq_bool_str (fM I q (by simp))
   | _=>exact absurd (show false = true from hs) au
 | int i =>
   obtain ⟨t,rfl⟩:=rx
   cases y with
   | non=>cases ry;exact PySem.EqNone.eq_int_none (fM I q (by simp))
   | int j=>obtain ⟨t',rfl⟩:=ry;exact eq_int (fM I q JA)
   | str j=>obtain ⟨t',rfl⟩:=ry;exact PySem.EqMixed.eq_int_str (fM I q (by simp))
   | _=>exact absurd (show false = true from hs) au
 | str i =>
   obtain ⟨t,rfl⟩:=rx
   cases y with
   | non=>cases ry;exact PySem.EqNone.eq_str_none (fM I q (by simp))
   | bl j=>cases ry;exact PySem.EqMixed.eq_str_bool (fM I q (by simp))
   | int j=>obtain ⟨t',rfl⟩:=ry;exact PySem.EqMixed.eq_str_int (fM I q (by simp))
   | str j=>obtain ⟨t',rfl⟩:=ry;exact eq_str (fM I q Jz)
   | _=>exact absurd (show false = true from hs) au
 | byt i =>
   obtain ⟨t,rfl⟩:=rx
   cases y with
   | byt j=>obtain ⟨t',rfl⟩:=ry;exact PySem.W.eq_bytes (fM I q JB)
   | _=>exact absurd (show false = true from hs) au
 | _=>cases y<;>exact absurd (show false = true from hs) au
theorem Ot:OpR X (compareOp .LtE) (rI0 fun i j=>.bl (decide (i<=j))):=Oy fun _ _ _ _ _ _ _ q=>le_int q
theorem Ou:OpR X (compareOp .Gt) (rI0 fun i j=>.bl (decide (j < i))):=Oy fun _ _ _ _ _ _ _ q=>gt_int q
theorem Cb:OpR X (compareOp .In) (fun x y H Q=>∃ i j,x = .str i/\y = .str j/\Q (.bl (!(qv j i 0 j.length 1).isEmpty)) H):=by
 intro pins s σ H x y v u Q I rx ry h;obtain ⟨i,j,rfl,rfl,q⟩:=h;obtain ⟨t,rfl⟩:=rx;obtain ⟨t',rfl⟩:=ry;exact in_str (fM I q rfl)
theorem OpR.or {f:af->af->Sem af} {r r':R2} (h:OpR X f r) (h':OpR X f r'):OpR X f (fun x y H Q=>r x y H Q\/r' x y H Q):=by
 intro pins s σ H x y v u Q I rx ry q;rcases q with q | q
 . exact h pins s σ H x y v u Q I rx ry q
 . exact h' pins s σ H x y v u Q I rx ry q
theorem IT {op:CmpOp} {r:R2} (ho:OpR X (compareOp op) r) (ha:PE X a ta) (hb:PE X b tb) (hm:behindInMarks op b = false):PE X (.Compare a [op] [b] pos) (tOp r ta tb):=by
 intro pins s σ H Q I h;exact wpAny_Compare1 (Nk ha hb I h fun v u s2 x y H2 I2 rx ry q=>ho pins s2 σ H2 x y v u Q I2 rx ry q) hm
noncomputable def NO (t:TE):TT:=fun σ H Q=>t σ H fun x H'=>∃ k,x = .bl k/\Q k H'
theorem IK (ho:OpR X (compareOp op) r) (ha:PE X a ta) (hb:PE X b tb) (hm:behindInMarks op b = false):PT X (.Compare a [op] [b] pos) (NO (tOp r ta tb)):=by
 intro pins s σ H Q I h
 refine wpAny_isTrue_Compare1 (thn (ha pins s σ H _ I h) fun v s1 ⟨x,H1,I1,r1,q1⟩=>thn (hb pins s1 σ H1 _ I1 q1) fun u s2 ⟨y,H2,I2,r2,q2⟩ =>
  thn (ho pins s2 σ H2 x y v u _ I2 r1 r2 q2) fun c s3 ⟨z,H3,I3,r3,k,e,q3⟩=>?_) hm
 subst e;cases r3;exact fN ⟨H3,I3,q3⟩
noncomputable def Np (K:PySem.W.Frag) (x:V) (H:Hp) (k:Bool):Prop :=
 match x with
 | .non=>k = false
 | .bl b=>k = b
 | .int i=>k = (i != 0)
 | .str y=>y.length<=sizeLine/\k = ((y.length:Int) != 0)
 | .byt y=>y.size<=sizeLine/\k = ((y.size:Int) != 0)
 | .ref p=>(∃ xs,SqL K H p xs/\k = !xs.isEmpty)\/(∃ xs,SqT K H p xs/\k = !xs.isEmpty)\/∃ kvs,H p = some (.dK kvs)/\k = !kvs.isEmpty
 | _=>False
theorem yQ {κ:Type} {kvs:List (κ × V)} {vs:List (κ × af)} (r:KV kvs vs):(!vs.isEmpty) = !kvs.isEmpty:=by
 cases r<;>rfl
theorem rz {xs:List V} {its:List af} (r:Vals xs its):(!its.toArray.isEmpty) = !xs.isEmpty:=by
 cases r<;>simp
theorem mj:(sizeLine:Nat) < 2 ^ 63:=by rw [bR];decide
theorem KZ:Qj X (fun x H Q=>∃ k,Np X.K x H k/\Q k H):=by
 intro pins s σ H x v Q I rx h;obtain ⟨k,e,q⟩:=h;have hl:=mj;have hs:sizeLine = 16777216:=bR
 cases x with
 | non =>
   cases rx;have e':k = false:=e;subst e'
   exact truthy_none ⟨H,I,q⟩
 | bl b =>
   cases rx;have e':k = b:=e;subst e'
   exact fN ⟨H,I,q⟩
 | int i =>
   obtain ⟨t,rfl⟩:=rx;have e':k = (i != 0):=e;subst e'
   exact PySem.P.truthy_int ⟨H,I,q⟩
 | str y =>
   obtain ⟨t,rfl⟩:=rx;obtain ⟨hy,e'⟩:y.length<=sizeLine/\k = ((y.length:Int) != 0):=e;subst e'
   exact PySem.P.truthy_str (by lia) ⟨H,I.tok _,q⟩
 | byt y =>
   obtain ⟨t,rfl⟩:=rx;obtain ⟨hy,e'⟩:y.size<=sizeLine/\k = ((y.size:Int) != 0):=e;subst e'
   exact PySem.W.truthy_bytes (by lia) ⟨H,I.tok _,q⟩
 | ref p =>
   cases rx;have e':(∃ xs,SqL X.K H p xs/\k = !xs.isEmpty)\/(∃ xs,SqT X.K H p xs/\k = !xs.isEmpty)\/∃ kvs,H p = some (.dK kvs)/\k = !kvs.isEmpty:=e;rcases e' with ⟨xs,hx,e'⟩ | ⟨xs,hx,e'⟩ | ⟨kvs,hx,e'⟩
   . subst e';obtain ⟨its,r,pl,hz⟩:=I.list hx;have hlen:=r.length;exact wpAny_truthy_list pl.isList (by simp only [aH];lia) ⟨H,I.tok _,by rw [rz r];exact q⟩
   . subst e';obtain ⟨its,r,pl,hz⟩:=I.tuple hx;have hlen:=r.length;exact truthy_tuple pl (by simp only [aH];lia) ⟨H,I.tok _,by rw [rz r];exact q⟩
   . subst e';obtain ⟨hz,hS,vs,r,m⟩:kvs.length<=sizeLine/\(p == sysModules) = false/\∃ vs,KV kvs vs/\s.heap.DictOf (uK X.prog X.w) p vs:=I.hok p _ hx;have hlen:kvs.length = vs.length:=Paired.length r
     exact wpAny_truthy_dict hS m (by lia) ⟨H,I.tok _,by rw [yQ r];exact q⟩
 | _=>exact (show False from e).elim
theorem wB (ha:PE X a ta) (he:∀ whole,isTrue a X.env whole = (do let v <- whole;standAt a.pos;holding [v] (truthy v))) :
 PT X a (fun σ H Q=>ta σ H fun x H'=>∃ k,Np X.K x H' k/\Q k H'):=by
 intro pins s σ H Q I h;exact isTrue_plain (thn (ha pins s σ H _ I h) fun v s1 ⟨x,H1,I1,r1,q1⟩=>KZ pins s1 σ H1 x v Q I1 r1 q1) (he _)
theorem yH:OpR X (binaryOp .Add) (fun x y H Q=>∃ i j,x = .str i/\y = .str j/\i.length+j.length<=sizeLine/\Q (.str (i++j)) H):=by
 intro pins s σ H x y v u Q I rx ry h;obtain ⟨i,j,rfl,rfl,hz,q⟩:=h;obtain ⟨t,rfl⟩:=rx;obtain ⟨t',rfl⟩:=ry;exact add_str (fun t' tk=>⟨.str (i++j),H,I.tok _,⟨_,rfl⟩,q⟩) hz
theorem vals1 (r:Vals [x] us):∃ u,us = [u]/\RelV x u:=by
 cases r with
 | cons r1 r2=>cases r2;exact ⟨_,rfl,r1⟩
theorem vals2 (r:Vals [x,y] us):∃ u w',us = [u,w']/\RelV x u/\RelV y w':=by
 cases r with
 | cons r1 r2 =>
   cases r2 with
   | cons r3 r4=>cases r4;exact ⟨_,_,rfl,r1,r3⟩
theorem CB (hc:X.calm = true):cL X (.builtin "max") (fun xs H Q=>∃ i j,xs = [.int i,.int j]/\Q (.int (if j > i then j else i)) H):=by
 intro pins s σ H xs us Q I r h;obtain ⟨i,j,rfl,q⟩:=h;obtain ⟨u,w',rfl,⟨t,rfl⟩,⟨t',rfl⟩⟩:=vals2 r;refine max_two_ints (I.ok.hd hc) fun h' tk k=>⟨_,H,I.kept k,?_,q⟩;by_cases hj:j > i
 . rw [if_pos hj,if_pos hj];exact ⟨_,rfl⟩
 . rw [if_neg hj,if_neg hj];exact ⟨_,rfl⟩
theorem CD:cL X (.type "int") (fun xs H Q=>(∃ i,xs = [.int i]/\Q (.int i) H)\/∃ k,xs = [.bl k]/\Q (.int (if k then 1 else 0)) H):=by
 intro pins s σ H xs us Q I r h;rcases h with ⟨i,rfl,q⟩ | ⟨k,rfl,q⟩
 . obtain ⟨u,rfl,t,rfl⟩:=vals1 r;exact call_int_int ⟨.int i,H,I,⟨_,rfl⟩,q⟩
 . obtain ⟨u,rfl,r1⟩:=vals1 r;cases r1;exact call_int_bool ⟨.int (if k then 1 else 0),H,I.tok _,⟨_,rfl⟩,q⟩
theorem vi:cL X (.type "str") (fun xs H Q=>∃ i,xs = [.int i]/\i.natAbs.log2 < 1920/\Q (.str (toString i)) H):=by
 intro pins s σ H xs us Q I r h;obtain ⟨i,rfl,hz,q⟩:=h;obtain ⟨u,rfl,t,rfl⟩:=vals1 r;exact PySem.P.str_of_int hz ⟨.str _,H,I.tok _,⟨_,rfl⟩,q⟩
end
end L2
namespace L2
open PySem PySem.Spec PyProof.Rows
structure Ql (h:bK) (x dx C:aw) (mA:Str->Option af):Prop where
 obj:h.get? x = some (PySem.W.instObj C dx)
 ns:h.Ns1 dx mA
 ne:dx≠x
section
variable {prog:aR} {w:bf} {A:ba} {E:af->ai->Prop} {s:ai} {K:PySem.W.Frag} {x dx C f:aw} {mA:Str->Option af} {name:Str} {v:af}
end
section
variable {P:aR} {w:bf} {H H':Hp} {h h':bK} {a C dx:aw} {fs fs':List (Str × V)}
end
structure Cls (K:PySem.W.Frag) (C:aw):Prop where
 pg:PySem.W.plainGet K C Str.empty = true
 hd:PySem.W.hasDictIn K C = true
 po:PySem.W.plainOver K C = true
 sa:PySem.W.findIn K (.ref C) "__setattr__" = some (some (.builtin "object.__setattr__"))
structure Con (K:PySem.W.Frag) (C:aw) (f:Str) (v:V) (u:af):Prop where
 at_:PySem.W.findIn K (.ref C) f = some (some u)
 rel:RelV v u
 get:PySem.W.specialIn K u "__get__" = some none
 cp:PySem.W.copiedNames.contains f = false
structure Meth (K:PySem.W.Frag) (C:aw) (m:Str) (f:aw):Prop where
 at_:PySem.W.findIn K (.ref C) m = some (some (.ref f))
 fn:PySem.W.isFn K (.ref f) = true
 kp:PySem.W.keepIn K (.ref f) = true
section
variable {X:Cx} {pins:List (aw × Obj)} {σ:St} {H:Hp} {s:ai} {a C dx:aw} {fs:List (Str × V)} {f:Str} {v:V} {A:ba} {E:af->ai->Prop}
end
section
variable {X:Cx} {o e value:aI} {f:Str} {pos pos' tpos:Pos} {ta tv:TE}
end
section
variable {X:Cx} {pins:List (aw × Obj)} {σ:St} {H:Hp} {s:ai} {A:ba} {E:af->ai->Prop} {Q:af->ai->Prop} {c:af} {b:Bool}
inductive rR (K:PySem.W.Frag) (H:Hp):V->af->Prop where
 | non:rR K H .non (.type "NoneType")
 | bl (x:Bool):rR K H (.bl x) (.type "bool")
 | int (i:Int):rR K H (.int i) (.type "int")
 | str (x:Str):rR K H (.str x) (.type "str")
 | flt (x:UInt64):rR K H (.flt x) (.type "float")
 | lst {a:aw} {xs:List V} (e:H a = some (.lst xs)):rR K H (.ref a) (.type "list")
 | frz {a:aw} {o:Obj} {xs:List V} (e:H a = some (.frz o (.lst xs))):rR K H (.ref a) (.type "list")
 | tup {a:aw} {xs:List V} (e:H a = some (.tup xs)):rR K H (.ref a) (.type "tuple")
 | dK {a:aw} {kvs:List (Key × V)} (e:H a = some (.dK kvs)):rR K H (.ref a) (.type "dict")
 | dT {a:aw} {kvs:List (List Key × V)} (e:H a = some (.dT kvs)):rR K H (.ref a) (.type "dict")
 | ins {a C dx:aw} {fs:List (Str × V)} (e:H a = some (.ins C dx fs)) (cl:Cls K C) (ha:PySem.W.findIn K (.ref C) "__class__" = some (some (.builtin "object.__class__")))
    (hn:PySem.W.specialIn K (.builtin "object.__class__") "__get__" = some (some (.builtin "getset_descriptor.__get__"))) (htk:PySem.W.takesIn K (.builtin "object.__class__") = some true)
    (hm:PySem.W.mroIn K C (.type "object") = some true):rR K H (.ref a) (.ref C)
end
end L2
namespace L2
open PySem PySem.Spec PyProof.Rows
structure kD (k:Nat) (A:ba):Prop where
 hd:A.handled = none
 dp:A.depth+3 * k+5 < recursionLimit
 un:A.units+16 * k+200 < cLine
theorem kD.deeper {k:Nat} {A:ba} (r:kD (k+1) A) (env:Env):kD k (A.deeper env) :=
 ⟨r.hd,by have:=r.dp;show A.depth+1+3 * k+5 < _;lia,by have:=r.un;show A.units+3+16 * k+200 < _;lia⟩
theorem kD.depth {k:Nat} {A:ba} (r:kD k A):A.depth < recursionLimit:=by have:=r.dp;lia
noncomputable def Lc:TA:=fun _ H Q=>Q [] H
noncomputable def zw (ta:TE) (tr:TA):TA:=fun σ H Q=>ta σ H fun x H1=>tr σ H1 fun xs H2=>Q (x::xs) H2
section
variable {X:Cx} {e:aI} {es:List aI} {te:TE} {t:TA} {pos:Pos}
theorem mi:PA X [] Lc:=fun _ _ _ _ H Q I h=>Calls.spliced_nil ⟨[],H,I,.nil,h⟩
theorem iB (ha:PE X e te) (hr:PA X es t) (hs:starEach (e::es) X.env = (false,eval e X.env)::starEach es X.env:=by rfl):PA X (e::es) (zw te t):=by
 intro pos pins s σ H Q I h;rw [hs];show wpAny _ _ (spliced ((false,eval e X.env)::backTo pos (starEach es X.env))) _ _ s;refine Calls.spliced_cons (thn (ha pins s σ H _ I h) fun u s1 ⟨x,H1,I1,r1,q1⟩=>?_);exact thn (hr pos pins s1 σ H1 _ I1 q1) fun us s2 ⟨xs,H2,I2,r2,q2⟩=>⟨x::xs,H2,I2,.cons r1 r2,q2⟩
noncomputable def Ph (t:TA):TE:=fun σ H Q=>t σ H fun xs H1=>xs.length<=sizeLine/\∀ p,H1 p = none->Q (.ref p) (upd H1 p (.tup xs))
noncomputable def Po (t:TA):TE:=fun σ H Q=>t σ H fun xs H1=>xs.length<=sizeLine/\∀ p,H1 p = none->Q (.ref p) (upd H1 p (.lst xs))
theorem LQ (h:PA X es t):PE X (.Tuple es x1 pos) (Ph t):=by
 intro pins s σ H Q I hq;refine wpAny_Tuple_spliced (thn (h pos pins s σ H _ I hq) fun us s1 ⟨xs,H1,I1,r,z,q⟩=>⟨by rw [<- r.length];exact z,?_⟩);have hf:H1 s1.heap.objs.size = none:=I1.hok.fresh (aA _);refine ⟨.ref s1.heap.objs.size,upd H1 s1.heap.objs.size (.tup xs),I1.laid (t':=s1.toks) (fun b u e=>ag _ e) (aA _) ?_,rfl,q _ hf⟩;exact ⟨z,us,r,⟨_,aE _ rfl,rfl,_,rfl⟩⟩
theorem EY (h:PA X es t):PE X (.List es pos) (Po t):=by
 intro pins s σ H Q I hq;refine wpAny_List_spliced (thn (h pos pins s σ H _ I hq) fun us s1 ⟨xs,H1,I1,r,z,q⟩=>⟨by rw [<- r.length];exact z,?_⟩);have hf:H1 s1.heap.objs.size = none:=I1.hok.fresh (aA _);refine ⟨.ref s1.heap.objs.size,upd H1 s1.heap.objs.size (.lst xs),I1.laid (t':=s1.toks) (fun b u e=>ag _ e) (aA _) ?_,rfl,q _ hf⟩;exact ⟨z,us,0,r,aE _ rfl⟩
end
abbrev Sp:=List V->Hp->VK->XK->Prop
abbrev CXT:=List Env->Hp->ai->XK->af->ai->Prop
structure vw (P:aR) (w:bf) (K:PySem.W.Frag) (mg:Str->Option af) (base:bK) (A:ba) (outer:List Env) (s:ai) (H:Hp):Prop where
 frames:A.frames = some outer
 mod:Mod K mg base
 bs:∀ b o,base.get? b = some o->s.heap.get? b = some o/\H b = none
 bsz:base.objs.size<=s.heap.objs.size
 funs:s.heap.FunFrames base outer
 frf:∀ b∈frs outer,H b = none
 hok:HOk P w H s.heap
 bare:mE s.gens
noncomputable def CE (outer:List Env) (P:aR) (w:bf) (H:Hp) (s:ai) (Q:VK) (u:af) (s':ai):Prop :=
 ∃ v H',s'.os = s.os/\mE s'.gens/\Un (frs outer) [] H H' s.heap s'.heap/\HOk P w H' s'.heap/\RelV v u/\Q v H'
noncomputable def CR (CX:CXT) (outer:List Env) (P:aR) (w:bf) (H:Hp) (s:ai) (Q:VK) (E:XK) (r:rT) (s':ai):Prop :=
 match r with
 | .ok (.ret u)=>CE outer P w H s Q u s'
 | .ok _=>False
 | .error e=>CX outer H s E e s'
structure lP (P:aR) (w:bf) (K:PySem.W.Frag) (mg:Str->Option af) (base:bK) (CX:CXT) (k:Nat) (f:aw) (fd:eB) (ps:List Str) (sp:Sp):Prop where
 len:∀ vs H Q E,sp vs H Q E->vs.length = ps.length
 run:∀ (A:ba) (outer:List Env) (s:ai) (H:Hp) (args:Args) (us:List af) (vs:List V) (Q:VK) (E:XK),kD k A->vw P w K mg base A outer s H->BindsTo s fd args (ps.zip us)->Vals vs us->sp vs H Q E ->
  codeAny (model P w) A (.call (.ref f) args) (CR CX outer P w H s Q E) s
section
variable {X:Cx} {pins:List (aw × Obj)} {σ:St} {H:Hp} {s s':ai}
theorem Inv.env0 (I:Inv X pins σ H s):vw X.prog X.w X.K X.mg X.base X.A X.stack s H :=
 ⟨I.ok.frames,I.ok.mod,I.bs,aX I.ok.bsz I.sz,I.stack,I.stkFree,I.hok,I.bare⟩
theorem Inv.after (I:Inv X pins σ H s) (h:CE X.stack X.prog X.w H s Q u s'):EP X pins σ Q u s':=by
 obtain ⟨v,H',os,bare,un,hok,r,q⟩:=h;obtain ⟨hh,g,d,t,os'⟩:=s';obtain rfl:os' = s.os:=os;exact ⟨v,H',I.call (h':=hh) (g':=g) (d':=d) (t':=t) (ch:=[]) un hok bare (fun b z=>absurd z (by simp)),r,q⟩
end
noncomputable def NU (sp:Sp) (dvs:List V) (E:XK) (t:TA):TE:=fun σ H Q=>t σ H fun vs H1=>sp (vs++dvs) H1 Q E
noncomputable def Binds (K:PySem.W.Frag) (fd:eB) (ps:List Str) (ds:List af):Prop :=
 ∀ (s:ai) (us:List af),K.In s.heap->(us++ds).length = ps.length->BindsTo s fd ⟨us,[]⟩ (ps.zip (us++ds))
theorem Binds.all {K:PySem.W.Frag} {fd:eB} {ps:List Str} (h:∀ us:List af,us.length = ps.length->bindArgs fd ⟨us,[]⟩ = pure (ps.zip us)):Binds K fd ps []:=fun s us _ hl=>by
 rw [bX] at hl ⊢;exact .of_eq (h us hl)
noncomputable def Passes (CX:CXT) (X:Cx) (E:XK):Prop:=∀ (pins:List (aw × Obj)) (σ:St) (H:Hp) (s:ai) (e:af) (s':ai),Inv X pins σ H s->CX X.stack H s E e s'->X.xe e s'
section
variable {X:Cx} {CX:CXT} {k:Nat} {f C:aw} {fd:eB} {ps:List Str} {sp:Sp} {dvs:List V} {ds:List af} {E:XK} {x m:Str} {p pos apos:Pos} {e o:aI} {es:List aI} {ta:TE} {t:TA}
theorem Lx (F:lP X.prog X.w X.K X.mg X.base CX k f fd ps sp) (hr:kD k X.A) (hb:Binds X.K fd ps ds) (hd:Vals dvs ds) (hx:Passes CX X E)
 (I:Inv X pins σ H s) (r:Vals vs us) (h:sp (vs++dvs) H Q E):wpAny (model X.prog X.w) X.A (call (.ref f) us) (EP X pins σ Q) X.xe s:=by
 have r2:Vals (vs++dvs) (us++ds):=r.append hd;have hl:(us++ds).length = ps.length:=by rw [<- r2.length];exact F.len _ _ _ _ h
 refine zc (iu (F.run X.A X.stack s H ⟨us,[]⟩ (us++ds) (vs++dvs) Q E hr I.env0 (hb s us I.kIn hl) r2 h) fun r s' hq=>?_)
 cases r with
 | error e=>exact hx pins σ H s e s' I hq
 | ok fl =>
   cases fl with
   | ret u=>exact I.after hq
   | next=>exact cI hq
   | brk=>exact cI hq
   | cont=>exact cI hq
theorem zS (F:lP X.prog X.w X.K X.mg X.base CX k f fd ps sp) (hr:kD k X.A) (hg:Gl X x) (hm:X.mg x = some (.ref f)) (hk:PySem.W.keepIn X.K (.ref f) = true) (hb:Binds X.K fd ps ds) (hd:Vals dvs ds) (hx:Passes CX X E)
 (ha:PA X (e::es) t) (hdb:(x == ("__debug__":Str)) = false:=by decide) (he:starEach (e::es) X.env = (false,eval e X.env)::starEach es X.env:=by rfl) (hpl:(backTo pos (starEach es X.env)).any (·.1) = false:=by rfl) :
 PE X (.Call (.Name x p) (e::es) [] pos) (NU sp dvs E t):=by
 intro pins s σ H Q I h;refine gR (uP I hg hm ?_ hdb);refine PySem.W.callWith_K (h₀:=X.base) I.ok.mod.kin hk (thn (ha pos pins s σ H _ I h) fun us s1 ⟨vs,H1,I1,r,q⟩=>⟨I1.kIn,?_⟩) he hpl;exact Lx F hr hb hd hx I1 r q
structure Mk (K:PySem.W.Frag) (C f:aw):Prop where
 makes:PySem.W.makesIn K C = true
 init:PySem.W.findIn K (.ref C) "__init__" = some (some (.ref f))
 fn:PySem.W.isFn K (.ref f) = true
 kp:PySem.W.keepIn K (.ref C) = true
end
section
variable {X:Cx} {CX:CXT} {k:Nat} {f C:aw} {fd:eB} {ps ks:List Str} {sp:Sp} {E:XK} {x m:Str} {p pos apos kpos:Pos} {e o:aI} {es:List aI} {kws:List jJ} {te ta:TE} {t tk:TA} {nm:Option Str}
structure Qk (K:PySem.W.Frag) (fd:eB) (ps ks:List Str) (g:List af->List af->List af) (gV:List V->List V->List V):Prop where
 to:∀ (s:ai) (us ws:List af),K.In s.heap->(g us ws).length = ps.length->BindsTo s fd ⟨us,ks.zip ws⟩ (ps.zip (g us ws))
 rel:∀ {vs:List V} {us:List af} {zs:List V} {ws:List af},Vals vs us->Vals zs ws->Vals (gV vs zs) (g us ws)
variable {g:List af->List af->List af} {gV:List V->List V->List V}
end
structure nR (N P:List Str) (sc:en):Prop where
 kind:sc.kind = .function
 co:sc.isCoroutine = false
 gen:sc.isGenerator = false
 nd:N.Nodup
 pre:N.take P.length = P
 par:∀ x∈P,sc.names.lookup x = some .local\/sc.names.lookup x = some .cell
 nofree:∀ y∈sc.names,y.2≠.free
theorem tM {kindOf:Str->Option ku} {x:Str}:∀ {binds:List (Str × af)} {m:Str->Option af},(∀ v,(x,v)∉binds)->bindL kindOf binds m x = m x
 | [],_,_=>rfl
 | (n,v)::r,m,h=>by
   unfold bindL;rw [tM fun w hw=>h w (aq _ hw)];split
   . have:x≠n:=by rintro rfl;exact h v ao
     simp [this]
   . rfl
theorem tQ {kindOf:Str->Option ku} {x:Str}:∀ {binds:List (Str × af)} {m:Str->Option af},(∀ v,(x,v)∉binds)->bindC kindOf binds m x = m x
 | [],_,_=>rfl
 | (n,v)::r,m,h=>by
   unfold bindC;rw [tQ fun w hw=>h w (aq _ hw)];split
   . rfl
   . have:x≠n:=by rintro rfl;exact h v ao
     simp [this]
theorem tP {kindOf:Str->Option ku} {x:Str} {v:af}:∀ {P:List Str} {vs:List af} {i:Nat} {m:Str->Option af},P.Nodup->P[i]? = some x->vs[i]? = some v->kindOf x = some .local ->
 bindL kindOf (P.zip vs) m x = some v
 | [],_,_,_,_,h,_,_=>by simp at h
 | _::_,[],_,_,_,_,h,_=>by simp at h
 | p::P,w::vs,0,m,nd,h1,h2,hk=>by
   simp at h1 h2;subst h1;subst h2;show bindL kindOf ((p,w)::P.zip vs) m p = _;unfold bindL;rw [tM fun v hv=>(bQ.mp nd).1 (iL hv).1,if_pos hk]
   simp
 | p::P,w::vs,i+1,m,nd,h1,h2,hk=>by
   show bindL kindOf ((p,w)::P.zip vs) m x = _;unfold bindL;exact tP (i:=i) (bQ.mp nd).2 (by simpa using h1) (by simpa using h2) hk
theorem tR {kindOf:Str->Option ku} {x:Str} {v:af}:∀ {P:List Str} {vs:List af} {i:Nat} {m:Str->Option af},P.Nodup->P[i]? = some x->vs[i]? = some v->kindOf x≠some .local ->
 bindC kindOf (P.zip vs) m x = some v
 | [],_,_,_,_,h,_,_=>by simp at h
 | _::_,[],_,_,_,_,h,_=>by simp at h
 | p::P,w::vs,0,m,nd,h1,h2,hk=>by
   simp at h1 h2;subst h1;subst h2;show bindC kindOf ((p,w)::P.zip vs) m p = _;unfold bindC;rw [tQ fun v hv=>(bQ.mp nd).1 (iL hv).1,if_neg hk]
   simp
 | p::P,w::vs,i+1,m,nd,h1,h2,hk=>by
   show bindC kindOf ((p,w)::P.zip vs) m x = _;unfold bindC;exact tR (i:=i) (bQ.mp nd).2 (by simpa using h1) (by simpa using h2) hk
noncomputable def start (N:List Str) (vs:List V):St:=vs.map some++aC (N.length - vs.length) none
noncomputable def vc (CX:CXT) (P:aR) (w:bf) (K:PySem.W.Frag) (mg:Str->Option af) (base:bK) (N:List Str) (qual:Str) (scope:en) (f:aw) (cd:af) (A:ba) (outer:List Env) (s:ai) (H:Hp) (E:XK):Cx where
 prog:=P
 w:=w
 K:=K
 mg:=mg
 base:=base
 A:=A.deeper (envOfC qual scope s.heap.objs.size f cd)
 N:=N
 s₀:=s
 H₀:=H
 env:=envOfC qual scope s.heap.objs.size f cd
 outer:=outer
 stack:=envOfC qual scope s.heap.objs.size f cd::outer
 ex:=[]
 calm:=true
 fn:=fun _=>true
 pn:=[]
 xe:=fun e s'=>wpAny (model P w) (A.deeper (envOfC qual scope s.heap.objs.size f cd)) (leaving (envOfC qual scope s.heap.objs.size f cd) e) (fun _ s''=>CX outer H s E e s'') (fun e' s''=>CX outer H s E e' s'') s'
theorem xE {sc:en} {n:Nat} {x:Str} (h:sc.names.lookup x = some .cell):∃ c,(cellsFrom n sc.names []).lookup x = some c:=by
 have q:=PySem.W.cellsFrom_some sc.names n [] (.inl h);exact gb.mp q
theorem Cj {CX:CXT} {P:aR} {w:bf} {K:PySem.W.Frag} {mg:Str->Option af} {base:bK} {N ps:List Str} {qual:Str} {scope:en} {f:aw} {cd:af} {A:ba} {outer:List Env} {s s1:ai} {H:Hp} {E:XK} {us:List af} {vs:List V}
 (S:nR N ps scope) (hd:A.handled = none) (e0:vw P w K mg base A outer s H) (hl:vs.length = ps.length) (r:Vals vs us)
 (x:InCallC s s.heap.objs.size (bindL (envOfC qual scope s.heap.objs.size f cd).kindOf (ps.zip us) fun _=>none) (cellsFrom (s.heap.objs.size+1) scope.names []) (bindC (envOfC qual scope s.heap.objs.size f cd).kindOf (ps.zip us) fun _=>none) s1) :
 Inv (vc CX P w K mg base N qual scope f cd A outer s H E) [] (start N vs) H s1:=by
 have hpl:ps.length<=N.length:=by have:=congrArg AY S.pre;rw [bG] at this;lia
 obtain ⟨h1,tk,rfl,hk⟩:=x.done;have noA:∀ b:aw,b∉(vc CX P w K mg base N qual scope f cd A outer s H E).ex:=fun b z=>absurd (show b∈([]:List aw) from z) (by simp)
 refine ⟨⟨e0.mod,S.kind,rfl,rfl,aA _,fun y z c h1 h2=>?_,fun y hy=>?_,fun y c _ h=>?_,fun _=>hd,yf e0.frames,.inr ⟨rfl,rfl⟩,fun b z=>absurd z (noA b),e0.bs,e0.bsz,fun b _ _=>noA b,fun b z=>absurd z (noA b),e0.funs,e0.frf⟩,
  rfl,e0.bare,Un.kept hk,⟨_,x.toInCall.ns,fun i y v h1 h2 h3=>?_⟩,fun y c h=>⟨_,x.cell y c h⟩,e0.hok.fresh (aA _),fun y c h=>?_,fun p hp=>absurd (show p∈([]:List (aw × Obj)) from hp) (by simp),e0.hok.kept hk,?_⟩
 . exact name_of_addr x.apart (PySem.mem_of_lookup h1) (PySem.mem_of_lookup h2)
 . have hy:scope.names.lookup y = some .cell\/scope.names.lookup y = some .free:=hy;rcases hy with hy | hy
   . exact xE hy
   . exact absurd rfl (S.nofree _ (PySem.mem_of_lookup hy))
 . exact jb (x.above y c (PySem.mem_of_lookup h))
 . have hi:i < vs.length:=by
    unfold start at h2;by_cases hi:i < vs.length
    . exact hi
    . rw [aS (by simpa using hi)] at h2;rw [dn] at h2;split at h2<;>cases h2
   have ha:vs[i]? = some v:=by
    unfold start at h2;rw [aL (by simpa using hi),bj] at h2
    cases e:vs[i]? with
    | none=>rw [e] at h2;cases h2
    | some a=>rw [e] at h2;cases h2;rfl
   obtain ⟨u,hu,rv⟩:=r.get ha
   have hp:ps[i]? = some y:=by
    rw [<- S.pre,cY (by lia)];exact h1
   have ndP:ps.Nodup:=by rw [<- S.pre];exact S.nd.sublist (List.take_sublist _ _)
   refine ⟨u,rv,?_⟩;rcases S.par y (bB hp) with k | k
   . exact .inl ⟨k,tP ndP hp hu k⟩
   . obtain ⟨c,e⟩:=xE (n:=s.heap.objs.size+1) k;refine .inr ⟨.inl k,c,e,?_⟩;have q:=x.cell y c e;rw [tR ndP hp hu (by show scope.names.lookup y≠_;rw [k];decide)] at q;exact q
 . exact e0.hok.fresh (jb (x.above y c (PySem.mem_of_lookup h)))
 . unfold start;show _ = N.length;rw [ar,aj,cA]
   lia
theorem ON {CX:CXT} {P:aR} {w:bf} {K:PySem.W.Frag} {mg:Str->Option af} {base:bK} {k:Nat} {f:aw} {name qual:Str} {params:pL} {body:List de} {scope:en} {dV kV doc pm cdv ct oc:af} {an od:Option aw}
 {osl:Array (Option af)} {N ps:List Str} {sp:Sp} (lk:K.lookup f = some ⟨oc,od,.func (PySem.W.fnOf name qual params body scope dV kV doc pm an cdv ct),osl⟩) (hcd:PySem.W.codeIn K cdv qual = true) (S:nR N ps scope)
 (len:∀ vs H Q E,sp vs H Q E->vs.length = ps.length)
 (hbody:∀ (A:ba) (outer:List Env) (s:ai) (H:Hp) (vs:List V) (Q:VK) (E:XK),kD k (A.deeper (envOfC qual scope s.heap.objs.size f cdv))->sp vs H Q E ->
   ∃ t,PSs (vc CX P w K mg base N qual scope f cdv A outer s H E) body t/\t { nx:=fun _ H'=>Q .non H',rt:=Q } (start N vs) H) :
 lP P w K mg base CX (k+1) f (PySem.W.fnOf name qual params body scope dV kV doc pm an cdv ct) ps sp:=by
 refine ⟨len,fun A outer s H args us vs Q E hr e0 hb r hsp=>?_⟩;have hl:=len _ _ _ _ hsp;have KX:K.In s.heap:=e0.mod.kin.keeps fun b o e=>(e0.bs b o e).1;have lim:s.heap.NoLimit:=e0.mod.nolimit.keeps fun b o e=>(e0.bs b o e).1
 have hkind:∀ y∈ps.zip us,scope.names.lookup y.1 = some .local\/(scope.names.lookup y.1 = some .cell/\((cellsFrom (s.heap.objs.size+1) scope.names []).lookup y.1).isSome = true):=fun ⟨n,v⟩ hy=>by
  rcases S.par n (iL hy).1 with q | q
  . exact .inl q
  . exact .inr ⟨q,PySem.W.cellsFrom_some _ _ _ (.inl q)⟩
 refine codeAny_call_function hr.depth (KX _ _ lk) rfl S.co S.gen rfl (PySem.W.codeRec_of KX hcd) (hb _ _ _ _ ?_);refine wpAny_newFunctionEnv_cells S.kind hkind fun env he s1 x=>?_;subst he;refine ⟨lim.keeps x.toInCall.keep,codeAny_func ?_⟩;obtain ⟨t,ht,hq⟩:=hbody A outer s H vs Q E (hr.deeper _) hsp;have I:Inv (vc CX P w K mg base N qual scope f cdv A outer s H E) [] (start N vs) H s1:=Cj S hr.hd e0 hl r x;refine iV (ht [] s1 (start N vs) H _ I hq) (fun fl s' hs=>?_) fun e s' hs=>hs
 have fin:∀ {σ':St} {H':Hp} {v:V} {u:af},Inv (vc CX P w K mg base N qual scope f cdv A outer s H E) [] σ' H' s'->RelV v u->Q v H'->CE outer P w H s Q u s' :=
  fun {σ' H' v u} J rv q=>⟨v,H',J.os,J.bare,J.base,J.hok,rv,q⟩
 cases fl with
 | ret u =>
   obtain ⟨v,σ',H',J,rv,q⟩:=hs
   exact fin J rv q
 | next =>
   obtain ⟨σ',H',J,q⟩:=hs
   exact fin (v:=V.non) (u:=cn) J rfl q
 | brk =>
   obtain ⟨_,_,_,q⟩:=hs
   exact cI q
 | cont =>
   obtain ⟨_,_,_,q⟩:=hs;exact cI q
end L2
namespace L2
open PySem PySem.Spec PyProof.Rows
section
variable {X:Cx} {x:Str} {p pos:Pos} {e:aI} {es:List aI} {t:TA} {id T:String} {r:List V->Hp->VK->Prop}
noncomputable def tCB (r:List V->Hp->VK->Prop) (t:TA):TE:=fun σ H Q=>t σ H fun vs H1=>r vs H1 Q
theorem iQ (hc:cL X (.builtin id) r) (hg:Gl X x) (hm:X.mg x = none) (hv:bootBuiltins x = some (.builtin id)) (ha:PA X (e::es) t) (hn:x≠"__name__":=by decide) (hdb:(x == ("__debug__":Str)) = false:=by decide)
 (he:starEach (e::es) X.env = (false,eval e X.env)::starEach es X.env:=by rfl) (hpl:(backTo pos (starEach es X.env)).any (·.1) = false:=by rfl):PE X (.Call (.Name x p) (e::es) [] pos) (tCB r t):=by
 intro pins s σ H Q I h;refine gR (rk I hg hm hv ?_ hn hdb);exact PyProof.Rows.callWith_builtin1 (thn (ha pos pins s σ H _ I h) fun us s1 ⟨vs,H1,I1,r1,q1⟩=>hc pins s1 σ H1 vs us Q I1 r1 q1) he hpl
theorem iK (hc:cL X (.type T) r) (hg:Gl X x) (hm:X.mg x = none) (hv:bootBuiltins x = some (.type T)) (ha:PA X (e::es) t) (hn:x≠"__name__":=by decide) (hdb:(x == ("__debug__":Str)) = false:=by decide)
 (he:starEach (e::es) X.env = (false,eval e X.env)::starEach es X.env:=by rfl) (hpl:(backTo pos (starEach es X.env)).any (·.1) = false:=by rfl):PE X (.Call (.Name x p) (e::es) [] pos) (tCB r t):=by
 intro pins s σ H Q I h;refine gR (rk I hg hm hv ?_ hn hdb);exact hV (thn (ha pos pins s σ H _ I h) fun us s1 ⟨vs,H1,I1,r1,q1⟩=>hc pins s1 σ H1 vs us Q I1 r1 q1) he hpl
end
end L2
namespace HT
open PySem PyProof.Rows
section
open PySem.SeqAt
open PySem.AutoSeq1 (wpAny_loadPart')
open PySem.MeetsSeq PySem.MeetsSeq2 PySem.MeetsSeq3
end
section
variable {prog:aR} {w:bf} {A:ba} {E:af->ai->Prop} {s:ai}
theorem cat_tup (ht:JP s.heap t vs.toArray) (hb:JP s.heap b ws.toArray) (hv:vs≠[])
 (h1:ws = []->Q (.ref t) s) (h2:ws≠[]->Q (.ref s.heap.objs.size) { s with heap:=s.heap.push { cls:=.type "tuple",data:=.seq (vs++ws).toArray } })
 (hsz:vs.length+ws.length<=sizeLine):wpAny (model prog w) A (binaryOp .Add (.ref t) (.ref b)) Q E s:=by
 obtain ⟨⟨cls,dd,data,sl⟩,ho,hc,n,hd⟩:=id ht;obtain ⟨⟨cls2,dd2,data2,sl2⟩,ho2,hc2,n2,hd2⟩:=id hb;simp only at hc hd hc2 hd2;subst hc hd hc2 hd2;have e:vs.toArray++ws.toArray = (vs++ws).toArray:=by simp
 by_cases hw:ws = []
 . exact Hg ⟨_,ho,rfl⟩ ⟨_,ho2,rfl⟩ vx CI PySem.F.slot_tuple_add PySem.F.entry_tuple_add (PySem.F.args_tuple_add_2 _ _)
    (tuple_addW1 t b vs.toArray ws.toArray n n2 dd dd2 sl sl2 (by simpa using hv) (by simp [hw])) ⟨ho,ho2,h1 hw⟩
 . refine Hg ⟨_,ho,rfl⟩ ⟨_,ho2,rfl⟩ vx CI PySem.F.slot_tuple_add PySem.F.entry_tuple_add (PySem.F.args_tuple_add_2 _ _)
    (tuple_addW2 t b vs.toArray ws.toArray n n2 dd dd2 sl sl2 (by simpa using hv) (by simpa using hw) (by rw [aH,aH];exact hsz)) ⟨ho,ho2,?_⟩
   rw [e];exact h2 hw
noncomputable def sIx (n d:Nat):Option Int->Nat
 | none=>d
 | some v=>if v < 0 then (v+(n:Int)).toNat else min v.toNat n
theorem sIx_nat (n d k:Nat):sIx n d (some (k:Int)) = min k n:=by
 show (if (k:Int) < 0 then ((k:Int)+(n:Int)).toNat else min (k:Int).toNat n) = min k n;rw [if_neg (by lia),jO]
theorem Lw (n d:Nat) (hd:d<=n) (o:Option Int):sIx n d o<=n:=by
 cases o with
 | none=>exact hd
 | some v =>
   show (if v < 0 then (v+(n:Int)).toNat else min v.toNat n)<=n;by_cases hv:v < 0
   . rw [if_pos hv];lia
   . rw [if_neg hv];exact iw _ _
theorem AG (v:Int) (n d:Nat):(if v < 0 then max (v+(n:Int)) 0 else min v (n:Int)) = ((sIx n d (some v):Nat):Int):=by
 show (if v < 0 then max (v+(n:Int)) 0 else min v (n:Int)) = (((if v < 0 then (v+(n:Int)).toNat else min v.toNat n):Nat):Int);by_cases hv:v < 0
 . simp only [if_pos hv];lia
 . simp only [if_neg hv];lia
theorem yY (lo hi:Option Int) (n:Nat):iy lo hi 1 (n:Int) = (((sIx n 0 lo:Nat):Int),((sIx n n hi:Nat):Int)):=by
 have h1:¬ ((1:Int) < 0):=by lia
 unfold iy;simp only [h1,if_false];refine Prod.ext ?_ ?_
 . cases lo with
   | none=>rfl
   | some v=>exact AG v n 0
 . cases hi with
   | none=>rfl
   | some v=>exact AG v n n
theorem yG (i j:Nat):fh (i:Int) (j:Int) 1 = j - i:=by
 unfold fh;have h1:(1:Int) > 0:=by lia
 simp only [h1,if_true,Int.ediv_one];split<;>lia
theorem qL {v:af} {o:Option Int} {Q:Option Int->ai->Prop} (p:rX v o) (h:Q o s):wpAny (model prog w) A (Builtin.Slice.slicePartIndex v) Q E s:=by
 cases p with
 | none=>exact slicePart_none h
 | int i t=>exact slicePart_int h
theorem om {sl:aw} {vl vu:af} {lo hi:Option Int} {n:Nat} {Q:Int × Int × Nat->ai->Prop} (hs:s.heap.IsSliceOf sl vl vu .none) (pl:rX vl lo) (pu:rX vu hi)
 (h:Q (((sIx n 0 lo:Nat):Int),1,sIx n n hi - sIx n 0 lo) s):wpAny (model prog w) A (nU (.ref sl) (pure (n:Int))) Q E s:=by
 obtain ⟨os,hos,hcs,hds⟩:=id hs;unfold nU Builtin.Slice.sliceFields;refine ab (ab (cN hos hds (x:=vl) rfl (ab (cN hos hds (x:=vu) rfl (ab (cN hos hds (x:=.none) rfl (ak ?_)))))));refine ab (slicePart_none ?_);show wpAny _ _ (if ((1:Int) == 0) = true then _ else _) _ _ s;rw [if_neg (by decide)];refine ab (qL pl (ab (qL pu (ab (ak ?_)))));show wpAny _ _ (match iy lo hi 1 (n:Int) with | (lo,hi)=>pure (lo,(1:Int),fh lo hi 1)) _ _ s;rw [yY lo hi n];show wpAny _ _ (pure (((sIx n 0 lo:Nat):Int),(1:Int),fh ((sIx n 0 lo:Nat):Int) ((sIx n n hi:Nat):Int) 1)) _ _ s;rw [yG];exact ak h
theorem EV (xs:Array af) (i k:Nat):((bD k).filterMap fun (m:Nat)=>xs[((i:Int)+(m:Int) * 1).toNat]?).toArray = ((xs.toList.drop i).take k).toArray:=by
 have e:(fun (m:Nat)=>xs[((i:Int)+(m:Int) * 1).toNat]?) = fun m=>xs[i+m]? := by
  funext m
  have:((i:Int)+(m:Int) * 1).toNat = i+m:=by lia
  rw [this]
 rw [e];have:=pick_run xs i k;rw [List.filterMap_map] at this;have e2:((fun x=>xs[x]?) ∘ fun x=>i+x) = fun m=>xs[i+m]? := rfl;rw [e2] at this;rw [this]
theorem getItem_tuple_cut {t sl:aw} {items:Array af} {vl vu:af} {lo hi:Option Int} {Q:af->ai->Prop} (ht:JP s.heap t items) (hs:s.heap.IsSliceOf sl vl vu .none) (pl:rX vl lo) (pu:rX vu hi)
 (hw:¬ (sIx items.size 0 lo = 0/\sIx items.size items.size hi = items.size))
 (h:Q (.ref s.heap.objs.size) { s with heap:=s.heap.push { cls:=.type "tuple",data:=.seq ((items.toList.drop (sIx items.size 0 lo)).take (sIx items.size items.size hi - sIx items.size 0 lo)).toArray } })
 (hsz:items.size<=sizeLine):wpAny (model prog w) A (getItem (.ref t) (.ref sl)) Q E s:=by
 have htake:sizeOk (.seq ((items.toList.drop (sIx items.size 0 lo)).take (sIx items.size items.size hi - sIx items.size 0 lo)).toArray):=by
  show ((items.toList.drop (sIx items.size 0 lo)).take (sIx items.size items.size hi - sIx items.size 0 lo)).toArray.size<=sizeLine;rw [aH,bG,eF,aZ];omega
 have hj:sIx items.size items.size hi<=items.size:=Lw _ _ (aA _) hi;obtain ⟨os,hos,hcs,hds⟩:=id hs;have hTs:s.TypeIs (.ref sl) "slice":=⟨os,hos,hcs⟩;unfold getItem
 try with_reducible refine bO ?_
 first | refine ab (ak ?_) | skip
 refine ab (wpAny_sequenceKey ht.typeIs (by decide) ?_)
 refine ab (cO (name:=fV "__getitem__") ht.typeIs lR
  (bM lR ht.typeIs entry_tuple_getitem ?_ (args_tuple_getitem _ _)))
 show wpAny _ _ (nS (.ref t) >>= _) _ _ s;refine ab (tupleItemsOf_ ht ?_);refine ab (sk hTs ?_);rw [if_pos (by decide)];refine ab (om hs pl pu ?_)
 have hno:¬ ((((sIx items.size 0 lo:Nat):Int) == 0 && (1:Int) == 1 && (sIx items.size items.size hi - sIx items.size 0 lo) == items.size) = true):=by
  intro q;rw [aa,aa] at q;have q1:((sIx items.size 0 lo:Nat):Int) = 0:=eq_of_beq q.1.1;have q2:sIx items.size items.size hi - sIx items.size 0 lo = items.size:=eq_of_beq q.2;exact hw ⟨by omega,by omega⟩
 show wpAny _ _ (if (((sIx items.size 0 lo:Nat):Int) == 0 && (1:Int) == 1 && (sIx items.size items.size hi - sIx items.size 0 lo) == items.size) = true then _ else _) _ _ s;rw [if_neg hno,EV]
 first
  | exact ab (m:=ft _) (bt (ak ⟨_,rfl,ak h⟩) htake)
  | exact ab (m:=ft _) (bt (ab (ak (ak ⟨_,rfl,ak h⟩))) htake)
  | exact ab (ab (m:=ft _) (bt (ak (ak ⟨_,rfl,ak h⟩)) htake))
  | exact ab (ab (m:=ft _) (bt (ak ⟨_,rfl,ak h⟩) htake))
end
end HT
namespace L2
open PySem PySem.Spec PyProof.Rows
abbrev TO:=St->Hp->(Option Int->Hp->Prop)->Prop
noncomputable def PO (X:Cx) (e:Option aI) (t:TO):Prop :=
 ∀ (pins:List (aw × Obj)) (s:ai) (σ:St) (H:Hp) (Q:Option Int->Hp->Prop),Inv X pins σ H s->t σ H Q ->
  wpAny (model X.prog X.w) X.A (evalPart e X.env) (fun u s'=>∃ o H',Inv X pins σ H' s'/\rX u o/\Q o H') X.xe s
noncomputable def HR:TO:=fun _ H Q=>Q none H
noncomputable def NP (t:TE):TO:=fun σ H Q=>t σ H fun x H1=>∃ i,x = .int i/\Q (some i) H1
section
variable {X:Cx} {e:aI} {te:TE} {lo hi:Option aI} {tl th:TO} {pos p2:Pos}
theorem IP:PO X none HR:=by
 intro pins s σ H Q I h;rw [evalPart_none];exact ak ⟨none,H,I,.none,h⟩
theorem IM (h:PE X e te):PO X (some e) (NP te):=by
 intro pins s σ H Q I hw;rw [evalPart_some];refine thn (h pins s σ H _ I hw) fun u s1 zz=>?_;obtain ⟨x,H1,I1,r1,q1⟩:=zz;obtain ⟨i,rfl,q⟩:=q1;obtain ⟨t,rfl⟩:=r1;exact ⟨some i,H1,I1,.int i t,q⟩
noncomputable def SlR (X:Cx) (r:V->Option Int->Option Int->Hp->VK->Prop):Prop :=
 ∀ (pins:List (aw × Obj)) (s:ai) (σ:St) (H:Hp) (x:V) (v vl vu:af) (lo hi:Option Int) (sl:aw) (Q:VK),Inv X pins σ H s->RelV x v->s.heap.IsSliceOf sl vl vu .none->rX vl lo->rX vu hi->r x lo hi H Q ->
  ∃ T id,typeLookup (.type T) "__getitem__" = pure (some (.builtin id))/\s.TypeIs v T/\wpAny (model X.prog X.w) X.A (getItem v (.ref sl)) (EP X pins σ Q) X.xe s
theorem SlR.or {r r':V->Option Int->Option Int->Hp->VK->Prop} (h:SlR X r) (h':SlR X r'):SlR X (fun x lo hi H Q=>r x lo hi H Q\/r' x lo hi H Q):=by
 intro pins s σ H x v vl vu lo hi sl Q I rx hs pl pu q;rcases q with q | q
 . exact h pins s σ H x v vl vu lo hi sl Q I rx hs pl pu q
 . exact h' pins s σ H x v vl vu lo hi sl Q I rx hs pl pu q
noncomputable def tSl (r:V->Option Int->Option Int->Hp->VK->Prop) (te:TE) (tl th:TO):TE:=fun σ H Q=>te σ H fun x H1=>tl σ H1 fun l H2=>th σ H2 fun u H3=>r x l u H3 Q
theorem wH (hr:SlR X r) (he:PE X e te) (hl:PO X lo tl) (hu:PO X hi th):PE X (.Subscript e (.Slice lo hi none p2) pos) (tSl r te tl th):=by
 intro pins s σ H Q I h;refine Subscript_ (thn (he pins s σ H _ I h) fun v s1 ⟨x,H1,I1,r1,q1⟩=>?_);refine wpAny_Slice (thn (hl pins s1 σ H1 _ I1 q1) fun vl s2 ⟨l,H2,I2,pl,q2⟩=>thn (hu pins s2 σ H2 _ I2 q2) fun vu s3 ⟨u,H3,I3,pu,q3⟩=>?_);rw [evalPart_none];refine ak ?_;have I4:Inv X pins σ H3 { s3 with heap:=s3.heap.push { cls:=.type "slice",data:=.fields #[vl,vu,.none] } }:=I3.kept (t':=s3.toks) fun b ob q=>ag _ q;obtain ⟨T,id,hT,ht,hg⟩:=hr pins { s3 with heap:=s3.heap.push { cls:=.type "slice",data:=.fields #[vl,vu,.none] } } σ H3 x v vl vu l u s3.heap.objs.size Q I4 r1 (Heap.IsSliceOf.new ..) pl pu q3;show wpAny (model X.prog X.w) X.A (subscriptTail e (.Slice lo hi none p2) v (.ref s3.heap.objs.size)) (EP X pins σ Q) X.xe { s3 with heap:=s3.heap.push { cls:=.type "slice",data:=.fields #[vl,vu,.none] } };exact tail_any (ops:=[.ref s3.heap.objs.size,v]) ht hT hg (by with_unfolding_all rfl)
noncomputable def sh (xs:List V) (lo hi:Option Int):List V:=(xs.drop (HT.sIx xs.length 0 lo)).take (HT.sIx xs.length xs.length hi - HT.sIx xs.length 0 lo)
theorem pB (xs:List V) (lo hi:Option Int):(sh xs lo hi).length<=xs.length:=by
 unfold sh;rw [bG,eF]
 lia
noncomputable def PC (K:PySem.W.Frag):V->Option Int->Option Int->Hp->VK->Prop:=fun x lo hi H Q=>∃ a xs,x = .ref a/\SqT K H a xs /\
 ¬ (HT.sIx xs.length 0 lo = 0/\HT.sIx xs.length xs.length hi = xs.length)/\∀ p,H p = none->Q (.ref p) (upd H p (.tup (sh xs lo hi)))
theorem Lp:SlR X (PC X.K):=by
 intro pins s σ H x v vl vu lo hi sl Q I rx hs pl pu h;obtain ⟨a,xs,rfl,hx,hw,q⟩:=h;cases rx;obtain ⟨its,r,ht,hz⟩:=I.tuple hx;have hlen:its.toArray.size = xs.length:=by rw [aH];exact r.length.symm
 refine ⟨"tuple",_,PyProof.Rows.slot_tuple_getitem.lookup,ht.typeIs,?_⟩;refine HT.getItem_tuple_cut ht hs pl pu (by rw [hlen];exact hw) ?_ (by rw [hlen];exact hz);rw [hlen];refine ⟨.ref s.heap.objs.size,_,I.laid (t':=s.toks) (o:=.tup (sh xs lo hi)) (fun b ob q=>ag _ q) (aA _) ?_,rfl,q _ (I.hok.fresh (aA _))⟩;exact ⟨aX (pB xs lo hi) hz,_,(r.drop (HT.sIx xs.length 0 lo)).take (HT.sIx xs.length xs.length hi - HT.sIx xs.length 0 lo),vF _ _⟩
noncomputable def Oe (K:PySem.W.Frag):R2:=fun x y H Q=>∃ a b xs ys,x = .ref a/\y = .ref b/\SqT K H a xs/\SqT K H b ys/\xs≠[]/\xs.length+ys.length<=sizeLine /\
 (ys = []->Q (.ref a) H)/\(ys≠[]->∀ p,H p = none->Q (.ref p) (upd H p (.tup (xs++ys))))
theorem Vals.nil_iff (r:Vals xs us):us = []↔xs = []:=by
 cases r with
 | nil=>simp
 | cons _ _=>simp
theorem IZ:OpR X (binaryOp .Add) (Oe X.K):=by
 intro pins s σ H x y v u Q I rx ry h;obtain ⟨a,b,xs,ys,rfl,rfl,ha,hb,hx,hz,q1,q2⟩:=h;cases rx;cases ry;obtain ⟨its,r1,p1,_⟩:=I.tuple ha;obtain ⟨its2,r2,p2,_⟩:=I.tuple hb;refine HT.cat_tup p1 p2 (fun z=>hx (r1.nil_iff.mp z)) (fun z=>⟨.ref a,H,I,rfl,q1 (r2.nil_iff.mp z)⟩) (fun z=>?_) (by rw [<- r1.length,<- r2.length];exact hz);refine ⟨.ref s.heap.objs.size,_,I.laid (t':=s.toks) (o:=.tup (xs++ys)) (fun b ob q=>ag _ q) (aA _) ?_,rfl,q2 (fun w=>z (r2.nil_iff.mpr w)) _ (I.hok.fresh (aA _))⟩;exact ⟨by rw [ar];exact hz,_,r1.append r2,vF _ _⟩
end
end L2
namespace L2
open PySem PySem.Spec PyProof.Rows
noncomputable def ixN (n:Nat) (i:Int):Option Nat:=if 0<=i then (if i < n then some i.toNat else none) else if -(n:Int)<=i then some (i+n).toNat else none
noncomputable def atI {α:Type} (xs:List α) (i:Int):Option α:=(ixN xs.length i).bind fun j=>xs[j]?
theorem Ag (h:ixN n i = some j):seqIndex? i n = some j/\j < n/\-(n:Int)<=i/\i < n:=by
 unfold ixN at h;by_cases h0:0<=i
 . rw [if_pos h0] at h;by_cases h1:i < n
   . rw [if_pos h1] at h;have e:i.toNat = j:=aY h;exact ⟨by rw [JI h0 h1,e],by lia,by lia,h1⟩
   . rw [if_neg h1] at h;cases h
 . rw [if_neg h0] at h;by_cases h1:-(n:Int)<=i
   . rw [if_pos h1] at h;have e:(i+n).toNat = j:=aY h;exact ⟨by rw [Hd (by lia) h1,e],by lia,h1,by lia⟩
   . rw [if_neg h1] at h;cases h
theorem vt {α:Type} {xs:List α} {i:Int} {v:α} (h:atI xs i = some v):∃ j,seqIndex? i xs.length = some j/\xs[j]? = some v/\j < xs.length/\-(xs.length:Int)<=i/\i < xs.length:=by
 unfold atI at h
 cases e:ixN xs.length i with
 | none=>rw [e] at h;cases h
 | some j =>
   rw [e] at h;obtain ⟨h1,h2,h3,h4⟩:=Ag e;exact ⟨j,h1,h,h2,h3,h4⟩
theorem atI_nat {α:Type} {xs:List α} {j:Nat} {v:α} (h:xs[j]? = some v):atI xs (j:Int) = some v:=by
 have hj:j < xs.length:=(aF.mp h).1
 have e:ixN xs.length (j:Int) = some j:=by
  unfold ixN;rw [if_pos (by lia),if_pos (by lia)];simp
 unfold atI;rw [e];exact h
noncomputable def PlainIx (b:aI):Prop:=∀ o i,subscripted b false o i = operate [o,i] (getItem o i)
noncomputable def IxR (X:Cx) (r:R2):Prop :=
 ∀ (value slice:aI) (pins:List (aw × Obj)) (s:ai) (σ:St) (H:Hp) (x y:V) (v u:af) (Q:VK),Inv X pins σ H s->RelV x v->RelV y u->r x y H Q ->
  subscripted slice false v u = operate [v,u] (getItem v u)->wpAny (model X.prog X.w) X.A (subscriptTail value slice v u) (EP X pins σ Q) X.xe s
noncomputable def MtR (X:Cx) (id:String) (r:V->List V->Hp->VK->Prop):Prop :=
 ∀ (pins:List (aw × Obj)) (s:ai) (σ:St) (H:Hp) (x:V) (xs:List V) (v:af) (us:List af) (Q:VK),Inv X pins σ H s->RelV x v->Vals xs us->r x xs H Q ->
  wpAny (model X.prog X.w) X.A (call (.builtin id) (v::us)) (EP X pins σ Q) X.xe s
section
variable {X:Cx} {a b:aI} {ta tb:TE} {pos:Pos}
theorem IxR.or {r r':R2} (h:IxR X r) (h':IxR X r'):IxR X (fun x y H Q=>r x y H Q\/r' x y H Q):=by
 intro value slice pins s σ H x y v u Q I rx ry q hs;rcases q with q | q
 . exact h value slice pins s σ H x y v u Q I rx ry q hs
 . exact h' value slice pins s σ H x y v u Q I rx ry q hs
theorem Om (hr:IxR X r) (ha:PE X a ta) (hb:PE X b tb) (hs:PlainIx b):PE X (.Subscript a b pos) (tOp r ta tb):=by
 intro pins s σ H Q I h;exact Subscript_ (Nk ha hb I h fun v u s2 x y H2 I2 rx ry q=>hr a b pins s2 σ H2 x y v u Q I2 rx ry q (hs _ _))
noncomputable def Oc (K:PySem.W.Frag):R2:=fun x y H Q=>∃ p xs i v,x = .ref p/\y = .int i/\SqL K H p xs/\atI xs i = some v/\Q v H
noncomputable def Oa (K:PySem.W.Frag):R2:=fun x y H Q=>∃ p xs i v,x = .ref p/\y = .int i/\SqT K H p xs/\atI xs i = some v/\Q v H
noncomputable def Ob:R2:=fun x y H Q=>∃ z i c,x = .str z/\y = .int i/\z.length<=sizeLine/\atI z.cps.toList i = some c/\Q (.str ⟨#[c]⟩) H
theorem Jr:IxR X (Oc X.K):=by
 intro value slice pins s σ H x y v u Q I rx ry h hs;obtain ⟨p,xs,i,z,rfl,rfl,hq,he,q⟩:=h;cases rx;obtain ⟨t,rfl⟩:=ry;obtain ⟨its,r,pl,hz⟩:=I.list hq;obtain ⟨j,h1,h2,h3,h4,h5⟩:=vt he;obtain ⟨w,ew,rw'⟩:=r.get h2;have hl:=r.length;have hn:=mj;have fin:EP X pins σ Q w s:=⟨z,H,I,rw',q⟩;by_cases h0:0<=i
 . have hj:i.toNat = j:=by
    rw [JI h0 h5] at h1;exact aY h1
   exact item_listR pl.isList h0 (by lia) (by rw [hj];simpa using ew) fin hs
 . have hj:(i+(its.toArray.size:Int)).toNat = j:=by
    rw [Hd (by lia) h4] at h1;rw [aH,<- hl];exact aY h1
   exact Hb (x:=w) pl.isList.typeIs slot_list_getitem.lookup
    (wpAny_getItem_list_neg (Q:=fun r s'=>r = w/\EP X pins σ Q r s') pl.isList (by lia) (by rw [aH]<;>lia) (by lia) (by rw [hj];simpa using ew) ⟨rfl,fin⟩) hs
theorem MI:IxR X (Oa X.K):=by
 intro value slice pins s σ H x y v u Q I rx ry h hs;obtain ⟨p,xs,i,z,rfl,rfl,hq,he,q⟩:=h;cases rx;obtain ⟨t,rfl⟩:=ry;obtain ⟨its,r,pl,hz⟩:=I.tuple hq;obtain ⟨j,h1,h2,h3,h4,h5⟩:=vt he;obtain ⟨w,ew,rw'⟩:=r.get h2;have hl:=r.length;have hn:=mj;have fin:EP X pins σ Q w s:=⟨z,H,I,rw',q⟩
 exact Hb (x:=w) pl.typeIs slot_tuple_getitem.lookup
  (getItem_tuple (j:=j) (Q:=fun r s'=>r = w/\EP X pins σ Q r s') pl (by lia) (by lia) (by rw [aH,<- hl];exact h1) (by simpa using ew) ⟨rfl,fin⟩) hs
theorem MJ:IxR X Ob:=by
 intro value slice pins s σ H x y v u Q I rx ry h hs;obtain ⟨z,i,c,rfl,rfl,hz,he,q⟩:=h;obtain ⟨t,rfl⟩:=rx;obtain ⟨t',rfl⟩:=ry;obtain ⟨j,h1,h2,h3,h4,h5⟩:=vt he;have hl:z.cps.toList.length = z.length:=by simp [Str.length]
 rw [hl] at h1 h4 h5;have hn:=mj
 exact tail_any (zd s z t) slot_str_getitem.lookup (getItem_str (c:=c) (by
  have e1:decide (i < -(2 ^ 63:Int)) = false:=decide_eq_false (by lia);have e2:decide (i ≥ 2 ^ 63) = false:=decide_eq_false (by lia);rw [e1,e2,vH]) (by rw [h1];simpa using h2) ⟨.str ⟨#[c]⟩,H,I.tok _,⟨_,rfl⟩,q⟩) hs
noncomputable def rIx (K:PySem.W.Frag):R2:=fun x y H Q=>Oc K x y H Q\/Oa K x y H Q\/Ob x y H Q
theorem MK:IxR X (rIx X.K):=Jr.or (MI.or MJ)
theorem yN (its:List af) (n j:Nat) (u:af):cq (·.setIfInBounds j u) { cls:=.type "list",data:=.seq its.toArray n } = { cls:=.type "list",data:=.seq (its.set j u).toArray n }:=by
 simp [cq]
theorem Inv.lst {pins:List (aw × Obj)} {σ:St} {H:Hp} {s:ai} {p:aw} {xs:List V} (I:Inv X pins σ H s) (h:H p = some (.lst xs)) :
 ∃ (its:List af) (n:Nat),Vals xs its/\s.heap.get? p = some { cls:=.type "list",data:=.seq its.toArray n }/\xs.length<=sizeLine:=by
 obtain ⟨z,its,n,r,e⟩:=I.hok p _ h;exact ⟨its,n,r,e,z⟩
theorem Inv.lstUpd {pins:List (aw × Obj)} {σ:St} {H:Hp} {s:ai} {p:aw} {xs ys:List V} {its its':List af} {n n':Nat} {f:Obj->Obj} (I:Inv X pins σ H s) (h:H p = some (.lst xs))
 (ho:s.heap.get? p = some { cls:=.type "list",data:=.seq its.toArray n }) (hf:f { cls:=.type "list",data:=.seq its.toArray n } = { cls:=.type "list",data:=.seq its'.toArray n' }) (r:Vals ys its') (hz:ys.length<=sizeLine) (t:Nat) :
 Inv X pins σ (upd H p (.lst ys)) { s with heap:=s.heap.update p f,toks:=t }:=by
 have e:(s.heap.update p f).get? p = some { cls:=.type "list",data:=.seq its'.toArray n' }:=by
  rw [fj f ho (by rw [hf]<;>rfl),hf]
 refine I.write (x:=p) (e:=p) (by rw [h];trivial) (.inl rfl) (fun b u hb q=>(eP _ _ (Ne.symm hb)).trans q) ⟨_,e⟩ ?_;exact ⟨hz,its',n',r,e⟩
noncomputable def NZ:V->V->V->Hp->(Hp->Prop)->Prop:=fun o i v H Q=>∃ p xs k j,o = .ref p/\i = .int k/\H p = some (.lst xs)/\ixN xs.length k = some j/\Q (upd H p (.lst (xs.set j v)))
theorem set_list:OV X NZ:=by
 intro pins s σ H o i v ov iv u Q I ro ri rv h;obtain ⟨p,xs,k,j,rfl,rfl,hp,hj,q⟩:=h;cases ro;obtain ⟨t,rfl⟩:=ri;obtain ⟨its,n,r,ho,hz⟩:=I.lst hp;obtain ⟨h1,h2,h3,h4⟩:=Ag hj;have hl:=r.length;have hn:=mj
 have I':Inv X pins σ (upd H p (.lst (xs.set j v))) { s with heap:=s.heap.update p (cq (·.setIfInBounds j u)) } :=
  I.lstUpd hp ho (yN its n j u) (r.set rv j) (by rw [cw];exact hz) s.toks
 by_cases h0:0<=k
 . have hk:k.toNat = j:=by
    rw [JI h0 h4] at h1;exact aY h1
   exact PySem.W.ki_setAt ho h0 (by lia) (by rw [aH,<- hl];exact h4) (by rw [hk];exact ⟨_,I',q⟩)
 . have hk:(k+(its.toArray.size:Int)).toNat = j:=by
    rw [Hd (by lia) h3] at h1;rw [aH,<- hl];exact aY h1
   exact PySem.W.ki_setBack ho (by lia) (by rw [aH,<- hl];exact h3) (by lia) (by rw [hk];exact ⟨_,I',q⟩)
theorem uo (lo hi:Option Int) (n:Nat):(sliceBounds lo hi none n).1 = ((HT.sIx n 0 lo:Nat):Int)/\(sliceBounds lo hi none n).2.1 = ((HT.sIx n n hi:Nat):Int)/\(sliceBounds lo hi none n).2.2 = 1:=by
 refine ⟨?_,?_,rfl⟩
 . cases lo with
   | none=>simp [sliceBounds,HT.sIx]
   | some i =>
     simp only [sliceBounds,HT.sIx,CY,show (1:Int) > 0 by decide,if_true];by_cases h:i < 0
     . simp only [h,if_true]<;>lia
     . simp only [h,if_false]<;>lia
 . cases hi with
   | none=>simp [sliceBounds,HT.sIx]
   | some i =>
     simp only [sliceBounds,HT.sIx,CY,show (1:Int) > 0 by decide,if_true];by_cases h:i < 0
     . simp only [h,if_true]<;>lia
     . simp only [h,if_false]<;>lia
theorem se (its:List af) (lo hi:Option Int):slicePick its.toArray lo hi none = ((its.drop (HT.sIx its.length 0 lo)).take (HT.sIx its.length its.length hi - HT.sIx its.length 0 lo)).toArray:=by
 obtain ⟨h1,h2,h3⟩:=uo lo hi its.toArray.size;unfold slicePick;rw [h1,h2,h3];simp only [sliceRange_one,pick_run,aH]<;>rfl
noncomputable def PF (K:PySem.W.Frag):V->Option Int->Option Int->Hp->VK->Prop:=fun x lo hi H Q=>∃ a xs,x = .ref a/\SqL K H a xs/\∀ p,H p = none->Q (.ref p) (upd H p (.lst (sh xs lo hi)))
theorem zE:SlR X (PF X.K):=by
 intro pins s σ H x v vl vu lo hi sl Q I rx hs pl pu h;obtain ⟨a,xs,rfl,hx,q⟩:=h;cases rx;obtain ⟨its,r,ht,hz⟩:=I.list hx;have hlen:=r.length;refine ⟨"list",_,slot_list_getitem.lookup,ht.isList.typeIs,?_⟩;refine wpAny_getItem_list_slice ht.isList hs pl pu .none (by simp) ?_ (by rw [aH]<;>lia);rw [se,<- hlen];refine ⟨.ref s.heap.objs.size,_,I.laid (t':=s.toks) (o:=.lst (sh xs lo hi)) (fun b ob q=>ag _ q) (aA _) ?_,rfl,q _ (I.hok.fresh (aA _))⟩;exact ⟨aX (pB xs lo hi) hz,_,0,(r.drop (HT.sIx xs.length 0 lo)).take (HT.sIx xs.length xs.length hi - HT.sIx xs.length 0 lo),aE _ rfl⟩
theorem vo:cL X (.builtin "len") (fun xs H Q=>∃ p ys,xs = [.ref p]/\(SqL X.K H p ys\/SqT X.K H p ys)/\Q (.int ys.length) H):=by
 intro pins s σ H xs us Q I r h;obtain ⟨p,ys,rfl,hq,q⟩:=h;obtain ⟨u,rfl,rx⟩:=vals1 r;cases rx;have hn:=mj;rcases hq with hq | hq
 . obtain ⟨its,r',pl,hz⟩:=I.list hq;have hlen:=r'.length;exact Calls.call_len_list pl.isList (by simp only [aH]<;>lia) ⟨.int ys.length,H,I.tok _,⟨s.toks+1,by rw [aH,hlen]⟩,q⟩
 . obtain ⟨its,r',pl,hz⟩:=I.tuple hq;have hlen:=r'.length;exact len_tuple pl (by simp only [aH]<;>lia) ⟨.int ys.length,H,I.tok _,⟨s.toks+1,by rw [aH,hlen]⟩,q⟩
theorem vn:cL X (.builtin "len") (fun xs H Q=>∃ z,xs = [.str z]/\z.length<=sizeLine/\Q (.int z.length) H):=by
 intro pins s σ H xs us Q I r h;obtain ⟨z,rfl,hz,q⟩:=h;obtain ⟨u,rfl,t,rfl⟩:=vals1 r;have hn:=mj;exact len_str (by lia) ⟨.int z.length,H,I.tok _,⟨_,rfl⟩,q⟩
theorem cL.or {f:af} {r r':List V->Hp->VK->Prop} (h:cL X f r) (h':cL X f r'):cL X f (fun xs H Q=>r xs H Q\/r' xs H Q):=by
 intro pins s σ H xs us Q I rs q;rcases q with q | q
 . exact h pins s σ H xs us Q I rs q
 . exact h' pins s σ H xs us Q I rs q
theorem nI:cL X (.type "list") (fun xs H Q=>∃ p ys,xs = [.ref p]/\(SqL X.K H p ys\/SqT X.K H p ys)/\∀ l,H l = none->Q (.ref l) (upd H l (.lst ys))):=by
 intro pins s σ H xs us Q I r h;obtain ⟨p,ys,rfl,hq,q⟩:=h;obtain ⟨u,rfl,rx⟩:=vals1 r;cases rx
 have fin:∀ (its:List af),Vals ys its->ys.length<=sizeLine->∀ (h':bK) (c':Nat),(∀ b o',s.heap.get? b = some o'->h'.get? b = some o') ->
  h'.get? s.heap.objs.size = some { cls:=.type "list",dict:=none,data:=.seq its.toArray c',slots := #[] }->EP X pins σ Q (.ref s.heap.objs.size) { s with heap:=h' }:=fun its r' hz h' c' kp e =>
  ⟨.ref s.heap.objs.size,_,I.laid (t':=s.toks) kp (aA _) (show fe X.prog X.w _ h' _ (.lst ys) from ⟨hz,its,c',r',e⟩),rfl,q _ (I.hok.fresh (aA _))⟩
 rcases hq with hq | hq
 . obtain ⟨its,r',pl,hz⟩:=I.list hq;have hlen:=r'.length;obtain ⟨o,ho,hc,n,hd⟩:=pl.isList;exact call_list_seq p (.inl rfl) ho hc hd (fun h' c' kp e=>fin its r' hz h' c' kp e) (by simp only [aH]<;>lia)
 . obtain ⟨its,r',pl,hz⟩:=I.tuple hq;have hlen:=r'.length;obtain ⟨o,ho,hc,n,hd⟩:=pl;exact call_list_seq p (.inr rfl) ho hc hd (fun h' c' kp e=>fin its r' hz h' c' kp e) (by simp only [aH]<;>lia)
theorem sj:cL X (.type "tuple") (fun xs H Q=>∃ p ys,xs = [.ref p]/\((SqL X.K H p ys/\∀ l,H l = none->Q (.ref l) (upd H l (.tup ys)))\/(SqT X.K H p ys/\Q (.ref p) H))):=by
 intro pins s σ H xs us Q I r h;obtain ⟨p,ys,rfl,h⟩:=h;obtain ⟨u,rfl,rx⟩:=vals1 r;cases rx;rcases h with ⟨hq,q⟩ | ⟨hq,q⟩
 . obtain ⟨its,r',pl,hz⟩:=I.list hq;have hlen:=r'.length;refine call_tuple_list pl.isList (fun h' kp=>?_) (by simp only [aH]<;>lia);have I1:Inv X pins σ H { s with heap:=h' }:=I.kept (t':=s.toks) kp
   have I2:Inv X pins σ (upd H h'.objs.size (.tup ys)) { s with heap:=h'.push { cls:=.type "tuple",data:=.seq its.toArray } } :=
    I1.laid (t':=s.toks) (fun b o e=>ag _ e) (aA _) (show fe X.prog X.w _ _ _ (.tup ys) from ⟨hz,its,r',vF _ _⟩)
   exact ⟨.ref h'.objs.size,_,I2,rfl,q _ (I1.hok.fresh (aA _))⟩
 . obtain ⟨its,r',pl,hz⟩:=I.tuple hq;exact call_tuple_same pl ⟨.ref p,H,I,rfl,q⟩
noncomputable def tyV (K:PySem.W.Frag) (T:String) (x:V) (H:Hp):Prop:=match x with
 | .str _=>T = "str"
 | .int _=>T = "int"
 | .ref p=>(T = "list"/\∃ xs,SqL K H p xs)\/(T = "tuple"/\∃ o,K.lookup p = some o/\o.cls = .type "tuple"/\o.dict = none) \/
    (T = "dict"/\((∃ kvs,H p = some (.dK kvs))\/∃ kvs,H p = some (.dT kvs)))\/(T = "set"/\∃ S n,H p = some (.set S n))
 | _=>False
theorem DV (I:Inv X pins σ H s) (r:RelV x v) (ty:tyV X.K T x H) :
 s.TypeIs v T/\∀ a,v = .ref a->∃ ob,s.heap.get? a = some ob/\ob.dict = none:=by
 cases x with
 | str z =>
   obtain ⟨t,rfl⟩:=r;cases (show T = "str" from ty)
   exact ⟨zd s z t,fun _ e=>nomatch e⟩
 | int i =>
   obtain ⟨t,rfl⟩:=r;cases (show T = "int" from ty)
   exact ⟨typeIs_int s i t,fun _ e=>nomatch e⟩
 | ref p =>
   cases r;rcases ty with ⟨rfl,xs,hq⟩ | ⟨rfl,o,hk,hc,hd⟩ | ⟨rfl,hk⟩ | ⟨rfl,S,n,hk⟩
   . obtain ⟨its,_,pl,_⟩:=I.list hq;refine ⟨pl.isList.typeIs,fun a e=>?_⟩;cases e;obtain ⟨o,n,e,c,hd,_⟩:=pl;exact ⟨o,e,hd⟩
   . refine ⟨⟨o,I.kIn p o hk,hc⟩,fun a e=>?_⟩;cases e;exact ⟨o,I.kIn _ o hk,hd⟩
   . have z:∃ o,s.heap.get? p = some o/\o.ExactDict:=by
      rcases hk with ⟨kvs,hk⟩ | ⟨kvs,hk⟩
      . obtain ⟨_,_,_,_,o,_,_,e,ex,_⟩:=I.hok p _ hk;exact ⟨o,e,ex⟩
      . obtain ⟨_,_,_,_,o,_,_,e,ex,_⟩:=I.hok p _ hk;exact ⟨o,e,ex⟩
     obtain ⟨o,e,ex⟩:=z;refine ⟨⟨o,e,ex.1⟩,fun a e2=>?_⟩;cases e2;exact ⟨o,e,ex.2.1⟩
   . obtain ⟨o,_,_,_,e,ex,_⟩:=I.hok p _ hk;refine ⟨⟨o,e,ex.1⟩,fun a e2=>?_⟩;cases e2
     exact ⟨o,e,ex.2.1⟩
 | _=>exact cI ty
noncomputable def Pr (K:PySem.W.Frag) (T:String) (r:V->List V->Hp->VK->Prop) (to:TE):TE:=fun σ H Q=>to σ H fun x H1=>tyV K T x H1/\r x [] H1 Q
noncomputable def tBM (K:PySem.W.Frag) (T:String) (r:V->List V->Hp->VK->Prop) (to:TE) (t:TA):TE:=fun σ H Q=>to σ H fun x H1=>tyV K T x H1/\t σ H1 fun xs H2=>r x xs H2 Q
variable {o e:aI} {es:List aI} {to:TE} {t:TA} {name:Str} {apos cpos:Pos} {T id:String} {r:V->List V->Hp->VK->Prop}
theorem LW (pa:PlainAttrs T) (slot:Slot T name id) (hty:typeOf (.builtin id) = pure (.type "method_descriptor")) (hm:MtR X id r) (ho:PE X o to)
 (hbase:attributeBase o name X.env (eval o X.env) = eval o X.env:=by rfl) (hline:(apos.endLine == cpos.line) = true:=by rfl):PE X (.Call (.Attribute o name apos) [] [] cpos) (Pr X.K T r to):=by
 intro pins s σ H Q I h;refine wpAny_Call_method0_late hbase hline (thn (ho pins s σ H _ I h) fun v s1 ⟨x,H1,I1,r1,ty,q1⟩=>?_);obtain ⟨h1,h2⟩:=DV I1 r1 ty;exact ⟨T,id,pa,slot,hty,h1,h2,xW rfl (PySem.evalArgs_none (hm pins s1 σ H1 x [] v [] Q I1 r1 .nil q1))⟩
theorem JS (pa:PlainAttrs T) (slot:Slot T name id) (hty:typeOf (.builtin id) = pure (.type "method_descriptor")) (hm:MtR X id r) (ho:PE X o to) (ha:PA X (e::es) t)
 (hbase:attributeBase o name X.env (eval o X.env) = eval o X.env:=by rfl)
 (hfew:((backTo cpos (starEach (e::es) X.env)).all (fun x=>!x.1) && (backToKw cpos (keywordEach [] X.env)).all (fun x=>x.1.isSome)
   && decide ((e::es).length+([]:List jJ).length+(if ([]:List jJ).isEmpty then 0 else 1) < 30)) = true:=by rfl)
 (hline:(apos.endLine == cpos.line) = true:=by rfl) (hs:starEach (e::es) X.env = (false,eval e X.env)::starEach es X.env:=by rfl) (hplain:(backTo cpos (starEach es X.env)).any (·.1) = false:=by rfl) :
 PE X (.Call (.Attribute o name apos) (e::es) [] cpos) (tBM X.K T r to t):=by
 intro pins s σ H Q I h;refine wpAny_Call_method_late hbase hfew hline rfl (thn (ho pins s σ H _ I h) fun v s1 ⟨x,H1,I1,r1,ty,q1⟩=>?_);obtain ⟨h1,h2⟩:=DV I1 r1 ty;refine ⟨T,id,pa,slot,hty,h1,h2,?_⟩;have hA:=ha cpos pins s1 σ H1 _ I1 q1;rw [hs] at hA ⊢;refine xW (by show (false || (backTo cpos (starEach es X.env)).any (·.1)) = false;rw [hplain]<;>rfl) (Calls.evalArgs_plain ?_);exact thn hA fun us s2 ⟨vs,H2,I2,r2,q2⟩=>hm pins s2 σ H2 x vs v us Q I2 r1 r2 q2
end
end L2
namespace L2
open PySem PySem.Spec PyProof.Rows
noncomputable def MtM (X:Cx) (id:String) (r:V->List V->Hp->VK->Prop):Prop :=
 ∀ (pins:List (aw × Obj)) (s:ai) (σ:St) (H:Hp) (x:V) (xs:List V) (v:af) (us:List af) (Q:VK),Inv X pins σ H s->RelV x v->Vals xs us->r x xs H Q ->
  wpAny (model X.prog X.w) X.A (call (.builtin id) (v::us)) (EP X pins σ Q) X.xe s
theorem Vals.one:∀ {x:V} {us:List af},Vals [x] us->∃ u,us = [u]/\RelV x u
 | _,_,.cons r .nil=>⟨_,rfl,r⟩
section
variable {X:Cx} {pins:List (aw × Obj)} {σ:St} {H:Hp} {s:ai} {l b:aw} {xs ys zs:List V}
theorem Inv.lset {its its':List af} {n:Nat} {f:Array af->Array af} {t':Nat} (I:Inv X pins σ H s) (hH:H l = some (.lst xs))
 (e:s.heap.get? l = some { cls:=.type "list",data:=.seq its.toArray n }) (hf:f its.toArray = its'.toArray) (hv:Vals ys its') (hz:ys.length<=sizeLine) :
 Inv X pins σ (upd H l (.lst ys)) { s with heap:=s.heap.update l (cq f),toks:=t' }:=by
 have q:=PySem.IsL.update e f;rw [hf] at q;refine I.write (x:=l) (e:=l) (by rw [hH];exact trivial) (.inl rfl) (fun b' u hb hu=>(eP s.heap (cq f) (Ne.symm hb)).trans hu) ⟨_,q⟩ ?_;exact ⟨hz,its',_,hv,q⟩
theorem Inv.lnew (I:Inv X pins σ H s) (hv:Vals ys its) (hz:ys.length<=sizeLine) :
 Inv X pins σ (upd H s.heap.objs.size (.lst ys)) { s with heap:=s.heap.push { cls:=.type "list",data:=.seq its.toArray },toks:=t' } :=
 I.laid (fun _ _ q=>ag _ q) (aA _) ⟨hz,its,0,hv,aE _ rfl⟩
theorem Inv.fresh (I:Inv X pins σ H s):H s.heap.objs.size = none:=I.hok.fresh (aA _)
theorem Inv.lstM (I:Inv X pins σ H s) (hH:H l = some (.lst xs)):xs.length<=sizeLine/\∃ (its:List af) (n:Nat),Vals xs its/\xs.length = its.length/\s.heap.get? l = some { cls:=.type "list",data:=.seq its.toArray n }:=by
 obtain ⟨z,its,n,r,e⟩:=I.hok l _ hH;exact ⟨z,its,n,r,r.length,e⟩
theorem Fx {n:Nat} (h:n<=sizeLine):pG n = false:=by
 unfold pG;exact decide_eq_false (by lia)
end
section
variable {X:Cx}
noncomputable def IH:V->List V->Hp->VK->Prop:=fun x vs H Q=>∃ l xs y,x = .ref l/\vs = [y]/\H l = some (.lst xs)/\xs.length < sizeLine/\Q .non (upd H l (.lst (xs++[y])))
theorem sY:MtM X "list.append" IH:=by
 intro pins s σ H x vs v us Q I rx rv h;obtain ⟨l,xs,y,rfl,rfl,hH,hz,q⟩:=h;cases rx;obtain ⟨u,rfl,ru⟩:=rv.one;obtain ⟨z,its,n,r,hl,e⟩:=I.lstM hH;refine call_meets F.slot_list_append ⟨_,e,rfl⟩ F.entry_list_append (F.args_list_append_2 _ _) (PySem.list_append l its.toArray n u (by rw [aH];lia)) ⟨e,?_⟩;refine ⟨.non,_,I.lset (its':=its++[u]) hH e (by simp) (r.append (.cons ru .nil)) ?_,rfl,q⟩;rw [ar,bP]
 lia
end
section
variable {prog:aR} {w:bf} {A:ba} {E:af->ai->Prop} {s:ai}
end
section
variable {X:Cx}
end
end L2
namespace Att
open PySem PySem.W PySem.Calls PyProof.Rows
theorem pP:∀ (ns:List Int) (vs:List af),WellAll P h vs (ns.map WData.int)->Hm vs ns:=by
 intro ns
 induction ns with
 | nil =>
   intro vs w;rw [fQ] at w;cases w
   exact .nil
 | cons n ns ih =>
   intro vs w;rw [aP] at w
   cases w with
   | cons a b =>
     cases a;exact .cons _ _ (ih _ b)
theorem BR {l:OpenLaw} {n:Nat} (hn:l.most = some n) {P:Params} {h:bK} {args:List WData} {vals:List af}
 (hpre:l.row.toRowW.claim.pre args = true) (hwl:WellAll P h vals args) :
 ∃ a vs ns,vals = [cT a]/\args = [WData.list (ns.map WData.int)]/\h.get? a = some { cls:=.type "list",data:=.seq vs.toArray }/\Hm vs ns/\ns.length<=n:=by
 have hsh:WShape.hasAll [] args [.list .int] = true:=(pre_splitW hpre).1;have hc:l.pre.holds [] { args:=args } = true:=(pre_splitW hpre).2;obtain ⟨d,r,rfl,h1,h2⟩:=hasAllW_cons hsh;obtain rfl:=hasAllW_nil h2;obtain ⟨xs,rfl,h3⟩:=hasW_list h1;obtain ⟨ns,rfl⟩:=items_int h3
 have hlen:ns.length<=n:=by
  unfold OpenLaw.pre at hc
  have h4:(WTm.not (.lt (.lit (.int (n:Int))) (.len (.arg 0)))).holds [] { args:=[.list (ns.map .int)] } = true:=by
   have h4:=(holds_andW hc).1;rw [hn] at h4;exact h4
  have h5:=condW_of h4 (w_not (w_lt w_lit (w_len_list (w_arg rfl))));rw [aj] at h5;refine Nat.le_of_not_lt fun q=>?_;have q':(n:Int) < ((ns.length:Nat):Int):=by lia
  first
   | (rw [decide_eq_true q'] at h5;exact absurd h5 (by decide))
   | (simp at h5;lia)
 cases hwl with
 | cons w1 w2 =>
   cases w2
   cases w1 with
   | list ho hall=>exact ⟨_,_,ns,rfl,rfl,ho,pP ns _ hall,hlen⟩
theorem BS (l:OpenLaw) (args:List WData):l.row.toRowW.claim.post args (.bool true) args = true :=
 postW_of (r:=l.row.toRowW) (X:=(true == true))
  (show WShape.has [] (.bool true) .bool = true by first | rfl | decide | simp [WShape.has,WShape.arms,WShape.armsAll])
  (show (WTm.eq .res (.lit (.bool true))).value [] { args:=args,res:=some (.bool true),after:=args } = some (.bool (true == true)) from w_eq_bool (w_res rfl) w_lit) rfl
theorem attach_call {l:OpenLaw} {n:Nat} {q:aR} {loose:List Str} {XP:(Str->Option af)->bK->Prop} {YP:bf->bK->Prop} {d:DefRec}
 (hn:l.most = some n) (hdf:d.params.defaults = [])
 (call:∀ (w:bf) (s₀ s₁:ai) (mg mb:Str->Option af) (fa:aw) (o:Obj) (pm cd doc:af) (a:aw) (vs:List af) (ns:List Int),
   Ground q loose [] XP w s₀ mg mb s₁.heap->YP w s₁.heap ->
   s₁.heap.get? fa = some o->o.data = .func (docDef d.name d.params d.body d.scope pm cd doc)->s₁.heap.CodeRec cd d.name->mg d.name = some (.ref fa) ->
   s₁.heap.get? a = some { cls:=.type "list",data:=.seq vs.toArray }->Hm vs ns->ns.length<=n->s₁.gens = #[] ->
   codeAny (model l.prog w) callerA (.call (.ref fa) ⟨[.ref a],[]⟩) (fun r s'=>r = .ok (.ret (.bool true))/\OldK s₁.heap s'.heap/\s'.os = s₁.os/\mE s'.gens) s₁) :
 WalkO q loose XP YP l.row.toRowW d [] (fun f vs=>PySem.call f vs):=by
 intro w s₀ s₁ mg mb G Y fa o pm cd doc dV kV ho hd hcd hD hmg hg args vals as hpre hlay hrd hwl hlo;obtain rfl:dV = .none:=Dflts.none hD hdf;obtain rfl:kV = .none:=Dflts.noKw hD;obtain ⟨a,vs,ns,rfl,rfl,hobj,hints,hlen⟩:=BR hn hpre hwl;refine enter_call (iu (call w s₀ s₁ mg mb fa o pm cd doc a vs ns G Y ho (fd_plain hd) hcd hmg hobj hints hlen hg) fun r s' hq=>?_);obtain ⟨rfl,h2,h3,h4⟩:=hq;exact ⟨.inl ⟨.bool true,.bool true,[],rfl,fun _=>rfl,.bool true,BS l _,fun _=>⟨List.Pairwise.nil,fun _ hm=>(nomatch hm)⟩⟩,h2,h3,h4⟩
section
variable {prog:aR} {w:bf} {A:ba} {E:af->ai->Prop} {s:ai} {K:Frag}
end
end Att
namespace L2
open PySem PySem.Spec PyProof.Rows
theorem sG:∀ {vs:List af} {ns:List Int},Hm vs ns->Vals (ns.map V.int) vs
 | _,_,.nil=>.nil
 | _,_,.cons n t h=>.cons ⟨t,rfl⟩ (sG h)
end L2
namespace L2
open PySem PySem.Spec PyProof.Rows
end L2
namespace L2
open PySem PySem.Spec PyProof.Rows
noncomputable def gX (s:de):pL:=match s with
 | .FunctionDef _ a _ _ _ _ _ _ _ _=>a
 | _=>{ posonlyargs:=[],args:=[],vararg:=none,kwonlyargs:=[],kw_defaults:=[],kwarg:=none,defaults:=[] }
noncomputable def eK (s:de):List de:=match s with
 | .FunctionDef _ _ b _ _ _ _ _ _ _=>b
 | _=>[]
noncomputable def bI (s:de):en:=match s with
 | .FunctionDef _ _ _ _ _ _ sc _ _ _=>sc
 | _=>{ kind:=.function,names:=[],isGenerator:=false,isCoroutine:=false }
abbrev CX0:CXT:=fun _ _ _ _ _ _=>False
abbrev E0:XK:=fun _ _ _=>False
theorem Fc:Passes CX0 X E0:=fun _ _ _ _ _ _ _ h=>h.elim
structure Fun (K:PySem.W.Frag) (x qual:Str) (st:de) (f:aw) (fd:eB):Prop where
 ex:∃ (oc:af) (od:Option aw) (kV doc pm:af) (an:Option aw) (cdv ct:af) (osl:Array (Option af)),
  fd = PySem.W.fnOf x qual (gX st) (eK st) (bI st) .none kV doc pm an cdv ct/\K.lookup f = some ⟨oc,od,.func fd,osl⟩/\PySem.W.codeIn K cdv qual = true
 kp:PySem.W.keepIn K (.ref f) = true
section
variable {P:aR} {w:bf} {K:PySem.W.Frag} {mg:Str->Option af} {base:bK}
theorem Fun.binds {x qual:Str} {st:de} {f:aw} {fd:eB} {ps:List Str} (F:Fun K x qual st f fd)
 (h:∀ (kV doc pm:af) (an:Option aw) (cdv ct:af) (us:List af),us.length = ps.length->bindArgs (PySem.W.fnOf x qual (gX st) (eK st) (bI st) .none kV doc pm an cdv ct) ⟨us,[]⟩ = pure (ps.zip us)):Binds K fd ps []:=by
 obtain ⟨oc,od,kV,doc,pm,an,cdv,ct,osl,rfl,lk,hcd⟩:=F.ex;exact .all (h kV doc pm an cdv ct)
theorem Gu {x qual:Str} {st:de} {f:aw} {oc:af} {od an:Option aw} {osl:Array (Option af)} {kV doc pm cdv ct:af} (l:K.lookup f = some ⟨oc,od,.func (PySem.W.fnOf x qual (gX st) (eK st) (bI st) .none kV doc pm an cdv ct),osl⟩)
 (c:PySem.W.codeIn K cdv qual = true) (k:PySem.W.keepIn K (.ref f) = true):Fun K x qual st f (PySem.W.fnOf x qual (gX st) (eK st) (bI st) .none kV doc pm an cdv ct):=⟨⟨oc,od,kV,doc,pm,an,cdv,ct,osl,rfl,l,c⟩,k⟩
end
section
variable {X:Cx}
end
theorem kU {A B:Prop} (h:B):if false = true then A else B:=by
 rw [if_neg au];exact h
theorem ka {A B:Prop} (h:A):if true = true then A else B:=by
 rw [if_pos rfl];exact h
noncomputable def iH (H H':Hp):Prop:=∀ b o,H b = some o->H' b = some o
theorem iH.refl (H:Hp):iH H H:=fun _ _ h=>h
end L2
end
section
namespace L2
open PySem PySem.Spec PyProof.Rows
section
variable {κ:Type} [DecidableEq κ]
end
section
variable {P:aR} {w:bf} {H:Hp} {h:bK} {a:aw}
end
section
variable {X:Cx} {pins:List (aw × Obj)} {σ:St} {H:Hp} {s:ai} {a:aw} {y v:V} {u r:af} {o:Option V} {A:ba} {E:af->ai->Prop}
end
section
variable {X:Cx} {pins:List (aw × Obj)} {σ:St} {H:Hp} {s:ai} {a:aw} {kvs:List (Key × V)} {k:Key} {u:af} {A:ba} {E:af->ai->Prop}
end
section
variable {X:Cx} {o i e value:aI} {pos pos' tpos:Pos} {td ty tv:TE}
end
section
variable {X:Cx} {pos:Pos}
end
structure M1 (X:Cx) (o:aI) (m:Str) (apos:Pos) (e:aI) (cpos:Pos):Prop where
 base:attributeBase o m X.env (eval o X.env) = eval o X.env
 few:((backTo cpos (starEach [e] X.env)).all (fun x=>!x.1) && (backToKw cpos (keywordEach [] X.env)).all (fun x=>x.1.isSome)
  && decide (([e]:List aI).length+([]:List jJ).length+(if ([]:List jJ).isEmpty then 0 else 1) < 30)) = true
 line:(apos.endLine == cpos.line) = true
 trees:backTo cpos (starEach [e] X.env) = [(false,eval e X.env)]
structure M2 (X:Cx) (o:aI) (m:Str) (apos:Pos) (e f:aI) (cpos:Pos):Prop where
 base:attributeBase o m X.env (eval o X.env) = eval o X.env
 few:((backTo cpos (starEach [e,f] X.env)).all (fun x=>!x.1) && (backToKw cpos (keywordEach [] X.env)).all (fun x=>x.1.isSome)
  && decide (([e,f]:List aI).length+([]:List jJ).length+(if ([]:List jJ).isEmpty then 0 else 1) < 30)) = true
 line:(apos.endLine == cpos.line) = true
 trees:backTo cpos (starEach [e,f] X.env) = [(false,eval e X.env),(false,eval f X.env)]
section
variable {X:Cx} {pins:List (aw × Obj)} {σ:St} {H:Hp} {s:ai} {a:aw} {y d:V} {u r:af} {o:Option V} {A:ba} {E:af->ai->Prop}
end
section
variable {X:Cx} {o e f:aI} {apos cpos:Pos} {td ty tx:TE}
end
section
variable {X:Cx} {pins:List (aw × Obj)} {σ:St} {H:Hp} {s:ai} {a:aw} {kvs:List (Key × V)} {A:ba} {E:af->ai->Prop}
end
section
variable {X:Cx} {pins:List (aw × Obj)} {σ:St} {H:Hp} {s:ai} {a:aw} {y:V} {u:af} {A:ba} {E:af->ai->Prop}
end
abbrev TU:=St->Hp->(St->Hp->Prop)->Prop
noncomputable def PU (X:Cx) (m:Sem Unit) (t:TU):Prop :=
 ∀ (pins:List (aw × Obj)) (s:ai) (σ:St) (H:Hp) (Q:St->Hp->Prop),Inv X pins σ H s->t σ H Q ->
  wpAny (model X.prog X.w) X.A m (fun _ s'=>∃ σ' H',Inv X pins σ' H' s'/\Q σ' H') X.xe s
noncomputable def PTs (X:Cx) (ifs:List aI) (t:TT):Prop :=
 ∀ (pins:List (aw × Obj)) (s:ai) (σ:St) (H:Hp) (Q:Bool->Hp->Prop),Inv X pins σ H s->t σ H Q ->
  wpAny (model X.prog X.w) X.A (forIn ifs true fun c r=>if r = true then do let ok <- isTrue c X.env (eval c X.env);pure (jP ok) else pure (jP r)) (TP X pins σ Q) X.xe s
section
variable {X:Cx}
theorem zO:PTs X [] (fun _ H Q=>Q true H):=fun pins s σ H Q I h=>wpAny_tests_nil ⟨H,I,h⟩
theorem IJ (hc:PT X c t):PTs X [c] t:=fun pins s σ H Q I h=>wpAny_tests_one (hc pins s σ H Q I h)
noncomputable def tLp (J:It) (g:TG) (tt:TT) (tb:TU):TU:=fun σ H Q=>∃ W:Nat->Nat->St->Hp->Prop,(∃ m,W 0 m σ H)/\∀ i m σ H,W i m σ H ->
 (J.stop i H/\Q σ H)\/(J.go i H/\∀ x H',J.yld i H x H'->g x σ H' fun σ2 H2=>tt σ2 H2 fun b H3 =>
   if b = true then tb σ2 H3 fun σ4 H4=>∃ m',m' < m/\W (i+1) m' σ4 H4 else ∃ m',m' < m/\W (i+1) m' σ2 H3)
theorem AE
 (hx:X.xe = fun _ _=>False) (hc:X.calm = true)
 (hq:(Code.compLoop e d (.ref it) acc X.env).quiet = true)
 (hden:(model X.prog X.w).den (.compLoop e d (.ref it) acc X.env) = (compTurn e d (.ref it) acc X.env).onRaise (fun x=>do noteFrame x X.env;theTreesLotGoes x))
 (hund:X.A.under (.compLoop e d (.ref it) acc X.env) = X.A)
 (hturn:compTurn e d (.ref it) acc X.env = (do
   standAt ip
   match <- pyNext (.ref it) with
   | none=>pure (.done .next)
   | some v =>
     letOwnedTupleGo tg (.ref it) v
     assign tg X.env v
     let mut ok:=true
     for c in ifs do
      if ok then ok <- isTrue c X.env (eval c X.env)
     if ok then body
     again (.compLoop e d (.ref it) acc X.env)))
 (T:Turn X.prog X.w X.K tg J fp it tn) (hg:PG X tg g) (ht:PTs X ifs tt) (hb:PU X body tb) {R:rT->ai->Prop}
 {pins:List (aw × Obj)} {s:ai} {σ:St} {H:Hp} {Q:St->Hp->Prop} (I:Inv X pins σ H s) (st:tn 0 s.heap) (f:∀ b∈fp,kq X pins H b) (h:tLp J g tt tb σ H Q)
 (hR:∀ s' σ' H',Inv X pins σ' H' s'->Q σ' H'->R (.ok .next) s'):codeAny (model X.prog X.w) X.A (.compLoop e d (.ref it) acc X.env) R s:=by
 obtain ⟨W,⟨m0,w0⟩,turn⟩:=h;have stat:∀ {H':Hp},(∀ b∈fp,H' b = none)->∀ b∈fp,kq X pins H' b:=fun hn b hb=>⟨hn b hb,(f b hb).2⟩;refine codeAny_loop hq (fun n s'=>∃ i σ' H',Inv X pins σ' H' s'/\tn i s'.heap/\(∀ b∈fp,H' b = none)/\W i n σ' H') ?_ m0 ⟨0,σ,H,I,st,fun b hb=>(f b hb).1,w0⟩;rintro n s3 ⟨i,σ3,H3,I3,st3,fr3,w3⟩;rw [hden,hund,hturn];refine wpAny_noted ?_
 have cut:∀ {α:Type} {m:Sem α} {Q:α->ai->Prop} {s:ai} {E':af->ai->Prop},wpAny (model X.prog X.w) X.A m Q X.xe s->wpAny (model X.prog X.w) X.A m Q E' s:=fun z=>by
  rw [hx] at z;exact wpAny_noRaise z
 refine ab (fG (ab ?_));rcases turn i n σ3 H3 w3 with ⟨stop,qn⟩ | ⟨go,step⟩
 . refine cut (thn (T.done X rfl rfl rfl hc i pins s3 σ3 H3 X.xe I3 (stat fr3) st3 stop) fun r s4 ⟨hr,I4⟩=>?_);subst hr;exact ak (hR s4 σ3 H3 I4 qn)
 . refine cut (thn (T.item X rfl rfl rfl hc i pins s3 σ3 H3 X.xe I3 (stat fr3) st3 go) fun r s4 ⟨u,hr,h4⟩=>?_);subst hr;refine ab (cut (thn h4 fun _ s5 ⟨x,H5,I5,r5,y5,st5,fr5⟩=>?_));have I5':=I5.pinned (stat fr5) (T.obj _ _ st5);refine ab (cut (thn (hg _ s5 σ3 H5 x u _ I5' r5 (step x H5 y5)) fun _ s6 ⟨σ6,H6,I6,q6⟩=>?_))
   have again:∀ {σ7:St} {H7:Hp} {s7:ai},Inv X (pins++qQ fp s5.heap) σ7 H7 s7->(∃ m',m' < n/\W (i+1) m' σ7 H7)->∃ m,m < n/\∃ i σ' H',Inv X pins σ' H' s7/\tn i s7.heap/\(∀ b∈fp,H' b = none)/\W i m σ' H':=fun {σ7 H7 s7} I7 n7=>by
    obtain ⟨m',hm,w7⟩:=n7;refine ⟨m',hm,i+1,σ7,H7,I7.unpinned,T.keep _ _ _ st5 fun b hb o e=>(I7.pin (b,o) (aV _ (aV _ (jX hb e)))).1,fun b hb=>?_,w7⟩;obtain ⟨o,e,d⟩:=T.obj _ _ st5 b hb;exact (I7.pin (b,o) (aV _ (aV _ (jX hb e)))).2.1
   refine ab (cut (thn (ht _ s6 σ6 H6 _ I6 q6) fun ok s7 ⟨H7,I7,q7⟩=>?_))
   cases ok with
   | false =>
     rw [if_neg au] at q7
     exact ak ⟨rfl,again I7 q7⟩
   | true =>
     rw [if_pos rfl] at q7;refine ab (cut (thn (hb _ s7 σ6 H7 _ I7 q7) fun _ s8 ⟨σ8,H8,I8,q8⟩=>?_));exact ak ⟨rfl,again I8 q8⟩
end
noncomputable def ij (env:Env):List (Str × ku)->List (Str × aw)->List (Str × aw)
 | [],cs=>cs
 | (n,k)::r,cs=>ij env r (if k == .free then (n,(env.cells.lookup n).getD 0)::cs else cs)
theorem AF:∀ (names:List (Str × ku)) (cs:List (Str × aw)),(∀ x,(x,bW)∈names->∃ c,env.cells.lookup x = some c) ->
 (forIn names cs fun x r=>match x with | (name,kind)=>(do
   if (kind == bW) = true then do
    let y <- cellOf env name
    pure (jP ((name,y)::r))
   else pure (jP r):Sem (ForInStep (List (Str × aw))))) = (pure (ij env names cs):Sem (List (Str × aw)))
 | [],cs,_=>rfl
 | (n,k)::r,cs,h=>by
   have ih:=fun cs=>AF (env:=env) r cs fun x hx=>h x (aq _ hx);rw [ff];by_cases hk:k = .free
   . subst hk;obtain ⟨c,e⟩:=h n ao;have e2:cellOf env n = pure c:=by unfold cellOf;rw [e]
     simp only [beq_self_eq_true,if_true,e2,pure_bind,ij,e,CW];exact ih _
   . have hb:(k == bW) = false:=by simpa using hk
     simp only [hb,aO,if_false,pure_bind,ij];exact ih _
theorem yU (h:∀ x,(x,bW)∈scope.names->∃ c,env.cells.lookup x = some c):closureFor scope env = pure (ij env scope.names []):=by
 have q:=AF (env:=env) scope.names [] h;unfold closureFor;rw [<- bind_pure (pure (ij env scope.names []):Sem _),<- q]
theorem vf:∀ (names:List (Str × ku)) (cs:List (Str × aw)),(∀ x,(x,bW)∈names->∃ c,env.cells.lookup x = some c)->∀ p∈ij env names cs,p∈cs\/env.cells.lookup p.1 = some p.2
 | [],cs,_,p,hp=>.inl hp
 | (n,k)::r,cs,h,p,hp=>by
   unfold ij at hp;have ih:=vf (env:=env) r _ (fun x hx=>h x (aq _ hx)) p hp;rcases ih with ih | ih
   . by_cases hk:k = .free
     . subst hk;rw [if_pos (by simp)] at ih;rcases aD.mp ih with rfl | ih
       . obtain ⟨c,e⟩:=h n ao;right;rw [e];rfl
       . exact .inl ih
     . rw [if_neg (by simpa using hk)] at ih;exact .inl ih
   . exact .inr ih
theorem vg:∀ (names:List (Str × ku)) (cs:List (Str × aw)) (x:Str),((x,bW)∈names\/∃ c,(x,c)∈cs)->∃ c,(x,c)∈ij env names cs
 | [],cs,x,h=>by
   rcases h with h | h
   . cases h
   . exact h
 | (n,k)::r,cs,x,h=>by
   unfold ij;refine vg (env:=env) r _ x ?_;rcases h with h | ⟨c,h⟩
   . rcases aD.mp h with e | h
     . cases e;right;rw [if_pos (by simp)];exact ⟨_,ao⟩
     . exact .inl h
   . right;split
     . exact ⟨c,aq _ h⟩
     . exact ⟨c,h⟩
theorem jo {α:Type}:∀ {l:List (Str × α)} {x:Str} {c:α},(x,c)∈l->∃ d,l.lookup x = some d
 | [],_,_,h=>by cases h
 | (y,d)::r,x,c,h=>by
   rw [bY]
   cases e:x == y with
   | true=>exact ⟨d,rfl⟩
   | false =>
     rcases aD.mp h with q | q
     . cases q;simp at e
     . exact jo q
structure oP (X:Cx) (scope:en):Prop where
 kind:scope.kind = .function
 nocell:∀ y∈scope.names,y.2≠.cell
 names:∀ y∈scope.names,y.2 = .local->scope.names.lookup y.1 = some .local
 free:∀ x,(x,bW)∈scope.names->X.env.kindOf x = some .cell\/X.env.kindOf x = some .free
noncomputable def cxC (X:Cx) (scope:en) (cl:List (Str × aw)) (C:aw) (Nc:List Str) (s:ai) (H:Hp) (fp:List aw):Cx :=
 { X with N:=Nc,s₀:=s,H₀:=H,env:=compEnvC scope cl C X.env,outer:=X.stack,ex:=fp,fn:=fun _=>false,pn:=[],xe:=fun _ _=>False }
theorem iP {scope:en} {env:Env}:∀ (names:List (Str × ku)) (x:Str),
 (names.map fun (n,k)=>if (k == bW && env.scope.kind == .function && env.kindOf n == some .cell) then (n,lT) else (n,k)).lookup x =
   (names.lookup x).map fun k=>if (k == bW && env.scope.kind == .function && env.kindOf x == some .cell) then lT else k
 | [],x=>rfl
 | (n,k)::r,x=>by
   have ih:=iP (scope:=scope) (env:=env) r x;rw [aP]
   cases hx:x == n with
   | true =>
     have e:x = n:=by simpa using hx
     subst e;by_cases hc:(k == bW && env.scope.kind == .function && env.kindOf x == some .cell) = true
     . simp only [hc,if_true,bY,beq_self_eq_true,dg]
     . simp only [hc,if_false,bY,beq_self_eq_true,dg,aO]
   | false =>
     by_cases hc:(k == bW && env.scope.kind == .function && env.kindOf n == some .cell) = true
     . simp only [hc,if_true,bY,hx];exact ih
     . simp only [hc,if_false,bY,hx,aO];exact ih
theorem oI {scope:en} {env:Env} {cl:List (Str × aw)} {C:aw} (x:Str):(compEnvC scope cl C env).kindOf x =
 (scope.names.lookup x).map fun k=>if (k == bW && env.scope.kind == .function && env.kindOf x == some .cell) then lT else k:=iP (scope:=scope) (env:=env) scope.names x
theorem si (nc:∀ y∈scope.names,y.2≠.cell) (h:(compEnvC scope cl C env).kindOf x = some .cell\/(compEnvC scope cl C env).kindOf x = some .free) :
 scope.names.lookup x = some .free:=by
 rw [oI] at h
 cases e:scope.names.lookup x with
 | none=>rw [e] at h;simp at h
 | some k =>
   rw [e] at h;have hm:=PySem.mem_of_lookup e;have:=nc _ hm;simp only [dg] at h;cases k<;>simp_all
theorem oA {X:Cx} {scope:en} {C:aw} {Nc:List Str} {s:ai} {h1:bK} {t1:Nat} {H:Hp} {fp:List aw} {pins:List (aw × Obj)} {σ:St}
 (S:oP X scope) (I:Inv X pins σ H s) (hf:∀ b∈fp,kq X pins H b) (hfl:∀ b∈fp,b < s.heap.objs.size) (hC:C = s.heap.objs.size) (hns:h1.Ns C fun _=>none) (hk:∀ b o,s.heap.get? b = some o->h1.get? b = some o)
 (hN:∀ i x,i < X.N.length->Nc[i]? = some x->Vis scope x->X.N[i]? = some x/\scope.names.lookup x = some .free) (hl:X.N.length<=Nc.length) :
 Inv (cxC X scope (ij X.env scope.names []) C Nc s H fp) [] (σ++aC (Nc.length - X.N.length) none) H { s with heap:=h1,toks:=t1 }:=by
 have hcl:∀ x,(x,bW)∈scope.names->∃ c,X.env.cells.lookup x = some c:=fun x hx=>I.ok.has x (S.free x hx)
 have hlk:∀ x c,(ij X.env scope.names []).lookup x = some c->X.env.cells.lookup x = some c:=fun x c e=>by
  have:=vf scope.names [] hcl _ (PySem.mem_of_lookup e);rcases this with z | z
  . cases z
  . exact z
 subst hC
 have neC:∀ x c,(ij X.env scope.names []).lookup x = some c->c < s.heap.objs.size:=fun x c e=>by
  obtain ⟨v,z⟩:=I.cell x c (hlk x c e);exact z.lt
 refine ⟨⟨I.ok.mod,S.kind,I.ok.glob,I.ok.blt,aA _,fun x y c e1 e2=>I.ok.inj x y c (hlk x c e1) (hlk y c e2),fun x hx=>?_,fun x c z _=>absurd z au,I.ok.hd,I.ok.frames,.inl rfl,fun b hb=>⟨aJ (hfl b hb),fun x c e=>(hf b hb).2.2.2.2.1 x c (hlk x c e)⟩,
  I.bs,aX I.ok.bsz I.sz,fun b o e hb=>?_,fun b hb hz=>?_,I.stack,I.stkFree⟩,rfl,I.bare,Un.kept hk,⟨_,hns,fun i x v e1 e2 e3=>?_⟩,fun x c e=>?_,I.hok.fresh (aA _),fun x c e=>I.freeC x c (hlk x c e),fun p hp=>absurd (show p∈([]:List (aw × Obj)) from hp) (by simp),I.hok.kept hk,?_⟩
 . have q:=si (cl:=ij X.env scope.names []) (C:=s.heap.objs.size) S.nocell hx;obtain ⟨c,hm⟩:=vg (env:=X.env) scope.names [] x (.inl (PySem.mem_of_lookup q));exact jo hm
 . obtain ⟨_,_,_,f3,_⟩:=hf b hb;rcases f3 with z | z
   . exact I.ok.noex b o e z
   . exact absurd (aW (az e) (aX I.ok.bsz z)) (cy _)
 . obtain ⟨_,f1,f2,_⟩:=hf b hb;rcases aD.mp (I.stkSub b hz) with q | q
   . exact f1 q
   . exact f2 q
 . have e1:Nc[i]? = some x:=e1
   have hi:i < X.N.length:=by
    by_cases hi:i < X.N.length
    . exact hi
    . rw [aS (by rw [I.len];omega),dn] at e2;split at e2<;>cases e2
   rw [aL (by rw [I.len];exact hi)] at e2
   have vis:Vis scope x:=by
    have e3:Vis (relabel scope X.env) x:=e3;unfold Vis relabel at e3;rw [iP (scope:=scope)] at e3;unfold Vis
    cases q:scope.names.lookup x with
    | none=>rw [q] at e3;simp at e3
    | some k =>
      rw [q] at e3;simp only [dg] at e3;have:=S.nocell _ (PySem.mem_of_lookup q);cases k<;>simp_all
   obtain ⟨n1,n2⟩:=hN i x hi e1 vis;obtain ⟨m,hn,hl'⟩:=I.loc;have kd:=S.free x (PySem.mem_of_lookup n2)
   have visX:Vis X.env.scope x:=by
    rcases kd with z | z
    . exact .inr (.inl z)
    . exact .inr (.inr z)
   obtain ⟨u,r,l⟩:=hl' i x v n1 e2 visX;refine ⟨u,r,.inr ?_⟩;rcases l with ⟨k,_⟩ | ⟨k,c,ec,z⟩
   . rcases kd with z | z
     . rw [z] at k;cases k
     . rw [z] at k;cases k
   . obtain ⟨c',hm⟩:=vg (env:=X.env) scope.names [] x (.inl (PySem.mem_of_lookup n2));obtain ⟨c2,hc2⟩:=jo hm;have:=hlk x c2 hc2;rw [ec] at this;cases this;refine ⟨?_,c,hc2,?_⟩
     . show (compEnvC scope (ij X.env scope.names []) s.heap.objs.size X.env).kindOf x = some .cell\/(compEnvC scope (ij X.env scope.names []) s.heap.objs.size X.env).kindOf x = some .free;rw [oI,n2];simp only [dg];split
       . exact .inl rfl
       . exact .inr rfl
     . obtain ⟨o,ho,hd⟩:=z;exact ⟨o,hk _ _ ho,hd⟩
 . obtain ⟨v,o,ho,hd⟩:=I.cell x c (hlk x c e);exact ⟨v,o,hk _ _ ho,hd⟩
 . show _ = Nc.length;rw [ar,cA,I.len];omega
noncomputable def Ec (D:aw) (te:TE):TU:=fun σ H Q=>te σ H fun y H'=>∃ xs,H' D = some (.lst xs)/\xs.length < sizeLine/\Q σ (upd H' D (.lst (xs++[y])))
theorem zN (he:PE X elt te):PU X (do let _ <- call (.builtin "list.append") [.ref D,<- eval elt X.env]) (Ec D te):=by
 intro pins s σ H Q I h;refine ab (thn (he pins s σ H _ I h) fun u s1 ⟨y,H1,I1,r1,xs,hD,hz,q⟩=>?_);refine ab (thn (sY pins s1 σ H1 (.ref D) [y] (.ref D) [u] (fun _ H'=>Q σ H') I1 rfl (.cons r1 .nil) ⟨D,xs,y,rfl,rfl,hD,hz,q⟩) fun _ s2 ⟨_,H2,I2,_,q2⟩=>?_);exact ak ⟨σ,H2,I2,q2⟩
noncomputable def tLC (k:Nat) (wi:TI) (g:TG) (tt:TT) (te:TE):TE:=fun σ H Q=>wi σ H fun J H1=>∀ D,H1 D = none ->
 tLp J g tt (Ec D te) (σ++aC k none) (upd H1 D (.lst [])) fun _ H2=>Q (.ref D) H2
theorem mq
 (I:Inv X pins σ H s) (hf:∀ b∈fp,kq X pins H b) (hC:C = s.heap.objs.size) (J:Inv (cxC X scope cl C Nc s H fp) [] σ' H' s') (hs:dy C s'.heap h2):Inv X pins σ H' { s' with heap:=h2 }:=by
 have hok:HOk X.prog X.w H' h2:=fun b ob e=>by
  refine (J.hok b ob e).stay (fun c w' hc q=>(hs.2 c ?_).trans q) (fun _ q=>q) fun _ _ q=>q;rintro rfl;have fr:H' c = none:=J.free;rcases hc with rfl | hc
  . rw [fr] at e;cases e
  . rw [fr] at hc;cases hc
 have neC:∀ b o,s.heap.get? b = some o->b≠C:=fun b o e=>by rw [hC];exact aJ (az e)
 refine I.call' (s':={ s' with heap:=h2 }) (ch:=fp) J.os ⟨fun b o e n hb hx=>?_,fun b o e n hb hx=>?_,fun b o e n hx=>J.base.free b o e n hx,fun b o e hx=>?_,J.base.tups,J.base.frzs,J.base.tbls⟩ hok J.bare fun b hb=>?_
 . exact (hs.2 b (neC b o e)).trans (J.base.keep b o e n hb hx)
 . obtain ⟨sl,z⟩:=J.base.slot b o e n hb hx;exact ⟨sl,(hs.2 b (neC b o e)).trans z⟩
 . obtain ⟨o',z⟩:=J.base.there b o e hx;exact ⟨o',(hs.2 b (neC b o e)).trans z⟩
 . obtain ⟨f0,f1,f2,f3,f4,f5⟩:=hf b hb;exact ⟨f3,f1,f4,f5⟩
theorem mr
 (S:oP X scope) (I:Inv X pins σ H s) (hf:∀ b∈fp,kq X pins H b) (hfl:∀ b∈fp,b < s.heap.objs.size) (hC:C = s.heap.objs.size) (hn:∀ b∈fp,H' b = none) :
 ∀ b∈fp,kq (cxC X scope (ij X.env scope.names []) C Nc s H fp) [] H' b:=fun b hb=>by
 have hcl:∀ x,(x,bW)∈scope.names->∃ c,X.env.cells.lookup x = some c:=fun x hx=>I.ok.has x (S.free x hx);obtain ⟨f0,f1,f2,f3,f4,f5⟩:=hf b hb;refine ⟨hn b hb,?_,fun z=>?_,.inl hb,fun x c e=>?_,fun p hp=>absurd (show p∈([]:List (aw × Obj)) from hp) (by simp)⟩
 . show b≠C;rw [hC];exact aJ (hfl b hb)
 . rcases aD.mp (I.stkSub b z) with q | q
   . exact f1 q
   . exact f2 q
 . have:=vf scope.names [] hcl _ (PySem.mem_of_lookup e);rcases this with z | z
   . cases z
   . exact f4 x c z
theorem EZ
 (hx:X.xe = fun _ _=>False) (hc:X.calm = true) (S:oP X scope) (hN:∀ i x,i < X.N.length->Nc[i]? = some x->Vis scope x->X.N[i]? = some x/\scope.names.lookup x = some .free) (hl:X.N.length<=Nc.length)
 (hi:PI X tg iter wi) (hg:∀ cl C s H fp,PG (cxC X scope cl C Nc s H fp) tg g) (ht:∀ cl C s H fp,PTs (cxC X scope cl C Nc s H fp) ifs tt) (he:∀ cl C s H fp,PE (cxC X scope cl C Nc s H fp) elt te)
 (hs:∀ x,foldedSetIterable iter X.env x = pure x):PE X (.ListComp elt [⟨tg,iter,ifs,0⟩] scope pos) (tLC (Nc.length - X.N.length) wi g tt te):=by
 intro pins s σ H Q I h;rw [eval_ListComp]
 have cutE:∀ {α:Type} {m:Sem α} {Q:α->ai->Prop} {s:ai} {E':af->ai->Prop},wpAny (model X.prog X.w) X.A m Q X.xe s->wpAny (model X.prog X.w) X.A m Q E' s:=fun z=>by
  rw [hx] at z;exact wpAny_noRaise z
 refine lx (use:=none) rfl hs (yU fun x hz=>I.ok.has x (S.free x hz)) S.kind S.names (thn (hi pins s σ H _ I h) fun v s1 h1=>thn h1 fun itv s2 h2=>?_);obtain ⟨it,fp,tn,J,H2,e,I2,T,st2,f2,q⟩:=h2;subst e;refine bt (hd:=by size_fits) ?_;have hfr:=I2.fresh;have I3:Inv X pins σ (upd H2 s2.heap.objs.size (.lst [])) { s2 with heap:=s2.heap.push { cls:=.type "list",data:=.seq ([]:List af).toArray } }:=I2.lnew (t':=s2.toks) (its:=[]) .nil (cu _);have st3:tn 0 (s2.heap.push { cls:=.type "list",data:=.seq ([]:List af).toArray }):=T.keep _ _ _ st2 fun b _ o e=>ag _ e
 have fl3:∀ b∈fp,b < s2.heap.objs.size:=fun b hb=>by
  obtain ⟨o,e,_⟩:=T.obj _ _ st2 b hb;exact az e
 have ne3:∀ b∈fp,upd H2 s2.heap.objs.size (.lst []) b = none:=fun b hb=>by rw [bA (aJ (fl3 b hb))];exact (f2 b hb).1
 have f3:∀ b∈fp,kq X pins (upd H2 s2.heap.objs.size (.lst [])) b:=fun b hb=>⟨ne3 b hb,(f2 b hb).2⟩;have q3:=q s2.heap.objs.size hfr;generalize hH3:upd H2 s2.heap.objs.size (.lst []) = H3 at I3 ne3 f3 q3;generalize hs3:({ s2 with heap:=s2.heap.push { cls:=.type "list",data:=.seq ([]:List af).toArray } }:ai) = s3 at I3;have hs3h:s3.heap = s2.heap.push { cls:=.type "list",data:=.seq ([]:List af).toArray }:=by rw [<- hs3]
 rw [<- hs3h] at st3;have fl4:∀ b∈fp,b < s3.heap.objs.size:=fun b hb=>by rw [hs3h,bC];exact bw (fl3 b hb)
 refine iZ S.nocell (by intro y hy;simp at hy) (fun h1 hns hsb=>?_) S.kind;have keep1:∀ b o,s3.heap.get? b = some o->h1.get? b = some o:=fun b o e=>hsb.extBut b o (aJ (az e)) (ag _ e);have J0:=oA (h1:=h1) (t1:=s3.toks+([]:List (Str × af)).length) S I3 f3 fl4 rfl (by simpa using hns) keep1 hN hl;have st4:tn 0 h1:=T.keep _ _ _ st3 fun b _ o e=>keep1 b o e
 have loop:∀ s4:ai,s4 = { s3 with heap:=h1,toks:=s3.toks+([]:List (Str × af)).length } ->
  codeAny (model X.prog X.w) X.A (.compLoop (.ListComp elt [⟨tg,iter,ifs,0⟩] scope pos) 0 (.ref it) (.ref s2.heap.objs.size) (compEnvC scope (ij X.env scope.names []) s3.heap.objs.size X.env))
   (compPost (model X.prog X.w) X.A X.xe none (EP X pins σ Q) (.ref s2.heap.objs.size) s3.heap.objs.size) s4:=by
  rintro s4 rfl
  refine AE (X:=cxC X scope (ij X.env scope.names []) s3.heap.objs.size Nc s3 H3 fp) (ip:=iter.pos) (body:=(do let _ <- call (.builtin "list.append") [.ref s2.heap.objs.size,<- eval elt (compEnvC scope (ij X.env scope.names []) s3.heap.objs.size X.env)]))
   rfl hc rfl rfl rfl (by rw [compTurn_list]<;>rfl) T (hg _ _ _ _ _) (ht _ _ _ _ _) (zN (he _ _ _ _ _)) J0 st4 (mr S I3 f3 fl4 rfl ne3) q3 ?_
  intro s' σ' H' J' q';obtain ⟨m,hn,_⟩:=J'.loc;exact ⟨m,hn,fun h2 hs2=>⟨.ref s2.heap.objs.size,H',mq I3 f3 rfl J' hs2,rfl,q'⟩⟩
 exact Hh (loop _ rfl) (T.self _ _ _ _ _ st4 (loop _ rfl))
theorem ER
 (hx:X.xe = fun _ _=>False) (hc:X.calm = true) (S:oP X scope) (hN:∀ i x,i < X.N.length->Nc[i]? = some x->Vis scope x->X.N[i]? = some x/\scope.names.lookup x = some .free) (hl:X.N.length<=Nc.length)
 (hi:PI X tg iter wi) (hg:∀ cl C s H fp,PG (cxC X scope cl C Nc s H fp) tg g) (ht:∀ cl C s H fp,PTs (cxC X scope cl C Nc s H fp) ifs tt) (he:∀ cl C s H fp,PE (cxC X scope cl C Nc s H fp) elt te)
 (hs:∀ x,foldedSetIterable iter X.env x = pure x)
 (hNd:X.N.Nodup) (hy:X.N[i]? = some y) (hv:Loc X.env.scope y) (hf:X.fn y = true\/X.env.scope.names.lookup y = some .local)
 (hsw:swapsWith (.ListComp elt [⟨tg,iter,ifs,0⟩] scope pos) (some (.Name y py)) spos.line X.env = pure true) :
 PS X (.Assign [.Name y py] (.ListComp elt [⟨tg,iter,ifs,0⟩] scope pos) spos) (HS (tLC (Nc.length - X.N.length) wi g tt te) (xj i)):=by
 intro pins s σ H Q I h;rw [exec_Assign_Name_used _ _ _ _ hsw];refine ab (fG (ab ?_));show wpAny _ X.A (do let _ <- comprehension (.ListComp elt [⟨tg,iter,ifs,0⟩] scope pos) scope X.env _ (newList []) false (eval iter X.env) (some (assign (.Name y py) X.env))) _ _ s
 refine ab (iV (lx (use:=some (assign (.Name y py) X.env)) (Q:=fun _ s'=>SP X pins Q .next s') rfl hs (yU fun x hz=>I.ok.has x (S.free x hz)) S.kind S.names
  (thn (hi pins s σ H _ I h) fun v s1 h1=>thn h1 fun itv s2 h2=>?_)) (fun _ s' hq=>ak (ak hq)) fun _ _ e=>e)
 obtain ⟨it,fp,tn,J,H2,e,I2,T,st2,f2,q⟩:=h2;subst e;refine bt (hd:=by size_fits) ?_;have hfr:=I2.fresh;have I3:Inv X pins σ (upd H2 s2.heap.objs.size (.lst [])) { s2 with heap:=s2.heap.push { cls:=.type "list",data:=.seq ([]:List af).toArray } }:=I2.lnew (t':=s2.toks) (its:=[]) .nil (cu _);have st3:tn 0 (s2.heap.push { cls:=.type "list",data:=.seq ([]:List af).toArray }):=T.keep _ _ _ st2 fun b _ o e=>ag _ e
 have fl3:∀ b∈fp,b < s2.heap.objs.size:=fun b hb=>by
  obtain ⟨o,e,_⟩:=T.obj _ _ st2 b hb;exact az e
 have ne3:∀ b∈fp,upd H2 s2.heap.objs.size (.lst []) b = none:=fun b hb=>by rw [bA (aJ (fl3 b hb))];exact (f2 b hb).1
 have f3:∀ b∈fp,kq X pins (upd H2 s2.heap.objs.size (.lst [])) b:=fun b hb=>⟨ne3 b hb,(f2 b hb).2⟩;have q3:=q s2.heap.objs.size hfr;generalize hH3:upd H2 s2.heap.objs.size (.lst []) = H3 at I3 ne3 f3 q3;generalize hs3:({ s2 with heap:=s2.heap.push { cls:=.type "list",data:=.seq ([]:List af).toArray } }:ai) = s3 at I3;have hs3h:s3.heap = s2.heap.push { cls:=.type "list",data:=.seq ([]:List af).toArray }:=by rw [<- hs3]
 rw [<- hs3h] at st3;have fl4:∀ b∈fp,b < s3.heap.objs.size:=fun b hb=>by rw [hs3h,bC];exact bw (fl3 b hb)
 refine iZ S.nocell (by intro y hy;simp at hy) (fun h1 hns hsb=>?_) S.kind;have keep1:∀ b o,s3.heap.get? b = some o->h1.get? b = some o:=fun b o e=>hsb.extBut b o (aJ (az e)) (ag _ e);have J0:=oA (h1:=h1) (t1:=s3.toks+([]:List (Str × af)).length) S I3 f3 fl4 rfl (by simpa using hns) keep1 hN hl;have st4:tn 0 h1:=T.keep _ _ _ st3 fun b _ o e=>keep1 b o e
 have loop:∀ s4:ai,s4 = { s3 with heap:=h1,toks:=s3.toks+([]:List (Str × af)).length } ->
  codeAny (model X.prog X.w) X.A (.compLoop (.ListComp elt [⟨tg,iter,ifs,0⟩] scope pos) 0 (.ref it) (.ref s2.heap.objs.size) (compEnvC scope (ij X.env scope.names []) s3.heap.objs.size X.env))
   (compPost (model X.prog X.w) X.A X.xe (some (assign (.Name y py) X.env)) (fun _ s'=>SP X pins Q .next s') (.ref s2.heap.objs.size) s3.heap.objs.size) s4:=by
  rintro s4 rfl
  refine AE (X:=cxC X scope (ij X.env scope.names []) s3.heap.objs.size Nc s3 H3 fp) (ip:=iter.pos) (body:=(do let _ <- call (.builtin "list.append") [.ref s2.heap.objs.size,<- eval elt (compEnvC scope (ij X.env scope.names []) s3.heap.objs.size X.env)]))
   rfl hc rfl rfl rfl (by rw [compTurn_list]<;>rfl) T (hg _ _ _ _ _) (ht _ _ _ _ _) (zN (he _ _ _ _ _)) J0 st4 (mr S I3 f3 fl4 rfl ne3) q3 ?_
  intro s' σ' H' J' q';have hC:H' s3.heap.objs.size = none:=J'.free;obtain ⟨m,hn,_⟩:=J'.loc;have hn:s'.heap.Ns s3.heap.objs.size m:=hn
  -- the frame's state,the block's own names still there
  have I4:Inv X pins σ H' s':=mq I3 f3 rfl J' (vB _ _);obtain ⟨oc,es,ep,ho,hd,hr⟩:=id hn;have above:X.s₀.heap.objs.size<=s3.heap.objs.size:=I3.sz;have hL:s3.heap.objs.size≠X.env.locals:=eY I3.lt;have hfs:s3.heap.objs.size∉X.fs:=I3.nofs (aA _)
  have I5:Inv X (pins++[(s3.heap.objs.size,oc)]) σ H' s':=I4.pins_of fun p hp=>by
   rcases br.mp hp with hp | hp
   . exact I4.pin p (aV _ hp)
   . have:p = (s3.heap.objs.size,oc):=by simpa using hp
     subst this;exact ⟨ho,hC,hL,hfs,fun v z=>by rw [hd] at z;cases z⟩
  show wpAny _ _ (assign (.Name y py) X.env (.ref s2.heap.objs.size)) _ _ _;refine Nx (kN (v:=.ref s2.heap.objs.size) I5 hNd hy hv rfl (fun s5 I6=>?_) hf);have hp6:=I6.pin (s3.heap.objs.size,oc) (aV _ (aV _ (by simp)));refine ⟨m,⟨oc,es,ep,hp6.1,hd,hr⟩,fun h' hsb'=>?_⟩;have I7:Inv X pins (σ.set i (some (.ref s2.heap.objs.size))) H' s5:=I6.unpinned;refine ⟨_,H',I7.turned (h':=h') (t':=s5.toks) (it:=s3.heap.objs.size) (fun b o hb e=>(hsb'.2 b hb).trans e) hC hL (.inr above) (fun x c e z=>?_) (fun p hp z=>?_),q'⟩
  . obtain ⟨v,o,hoc,hdc⟩:=I3.cell x c e;have:=az hoc;rw [z] at this;exact absurd this (cy _)
  . have hq:=(I3.pin p hp).1;have:=az hq;rw [z] at this;exact absurd this (cy _)
 exact Hh (loop _ rfl) (T.self _ _ _ _ _ st4 (loop _ rfl))
section
variable {X:Cx}
noncomputable def PD:V->Option Int->Option Int->Hp->VK->Prop:=fun x lo hi H Q=>∃ t,x = .str t/\t.length<=sizeLine/\Q (.str (Txt.slice t lo hi)) H
theorem part_of {v:af} {lo:Option Int} (h:rX v lo):∃ l:Option (Int × Tok),v = partValue l/\l.map (·.1) = lo:=by
 cases h with
 | none=>exact ⟨none,rfl,rfl⟩
 | int i t=>exact ⟨some (i,t),rfl,rfl⟩
theorem Lq:SlR X PD:=by
 intro pins s σ H x v vl vu lo hi sl Q I rx hs pl pu h;obtain ⟨t,rfl,hz,q⟩:=h;obtain ⟨k,rfl⟩:=rx;obtain ⟨l,rfl,rfl⟩:=part_of pl;obtain ⟨u,rfl,rfl⟩:=part_of pu;refine ⟨"str",_,PySem.F.slot_str_getitem.lookup,zd _ _ _,wpAny_getItem_str_slice (l:=l) (u:=u) (st:=none) hs rfl ?_⟩;exact post_val_or_str ⟨aX (Txt.slice_le t _ _) hz,fun t' k=>⟨.str _,H,I.tok _,⟨_,rfl⟩,q⟩⟩
end
end L2
end
section
namespace PP
open PySem PySem.W PyProof.Rows
noncomputable def ans {α:Type} (lt:Nat->Nat->Bool):KasT α->α
 | .ret a=>a
 | .ask i j k=>ans lt (k (lt i j))
theorem dI {α β:Type} (lt:Nat->Nat->Bool) (f:α->KasT β):∀ t:KasT α,ans lt (t.bind f) = ans lt (f (ans lt t))
 | .ret a=>rfl
 | .ask i j k=>by
   show ans lt ((k (lt i j)).bind f) = _;rw [dI lt f (k (lt i j))];rfl
theorem fE {α:Type} (lt:Nat->Nat->Bool) (i j:Nat) (k:Bool->KasT α):ans lt (.ask i j k) = ans lt (k (lt i j)):=rfl
theorem iG {α:Type} (lt:Nat->Nat->Bool) (a:α):ans lt (.ret a) = a:=rfl
structure Ord (lt:Nat->Nat->Bool):Prop where
 as:∀ a b,lt a b = true->lt b a = false
 tr:∀ a b c,lt b a = false->lt c b = false->lt c a = false
section
variable {lt:Nat->Nat->Bool} (O:Ord lt)
noncomputable def Up (lt:Nat->Nat->Bool) (p:Array Nat) (m:Nat):Prop:=∀ i j,i<=j->j < m->lt (p.getD j 0) (p.getD i 0) = false
noncomputable def Dn' (lt:Nat->Nat->Bool) (p:Array Nat) (m:Nat):Prop:=∀ i j,i<=j->j < m->lt (p.getD i 0) (p.getD j 0) = false
include O
theorem Ord.refl (a:Nat):lt a a = false:=by
 cases h:lt a a with
 | false=>rfl
 | true=>have:=O.as a a h;rw [h] at this;cases this
theorem Up.one (p:Array Nat):Up lt p 1:=fun i j h1 h2=>by
 have e1:j = 0:=by lia
 have e2:i = 0:=by lia
 subst e1;subst e2;exact O.refl _
theorem Up.more {p:Array Nat} {n:Nat} (h:Up lt p n) (hn:1<=n) (h2:lt (p.getD n 0) (p.getD (n - 1) 0) = false):Up lt p (n+1):=fun i j h3 h4=>by
 by_cases e:j = n
 . subst e;by_cases e':i = j
   . subst e';exact O.refl _
   . exact O.tr _ _ _ (h i (j - 1) (by lia) (by lia)) h2
 . exact h i j h3 (by lia)
theorem Dn'.more {p:Array Nat} {n:Nat} (h:Dn' lt p n) (hn:1<=n) (h2:lt (p.getD (n - 1) 0) (p.getD n 0) = false):Dn' lt p (n+1):=fun i j h3 h4=>by
 by_cases e:j = n
 . subst e;by_cases e':i = j
   . subst e';exact O.refl _
   . exact O.tr _ _ _ h2 (h i (j - 1) (by lia) (by lia))
 . exact h i j h3 (by lia)
theorem yV (p:Array Nat):∀ (f n:Nat),1<=n->Up lt p n->n<=ans lt (kas_asc p f n)/\ans lt (kas_asc p f n)<=n+f/\Up lt p (ans lt (kas_asc p f n))/\(ans lt (kas_asc p f n) < n+f->lt (p.getD (ans lt (kas_asc p f n)) 0) (p.getD (ans lt (kas_asc p f n) - 1) 0) = true)
 | 0,n,_,h=>⟨aA _,aA _,h,fun z=>absurd z (cy _)⟩
 | f+1,n,hn,h=>by
   unfold kas_asc;rw [fE]
   cases c:lt (p.getD n 0) (p.getD (n - 1) 0) with
   | true =>
     rw [if_pos rfl,iG]
     exact ⟨aA _,by lia,h,fun _=>c⟩
   | false =>
     rw [if_neg au];obtain ⟨a1,a2,a3,a4⟩:=yV p f (n+1) (by lia) (h.more O hn c);exact ⟨by lia,by lia,a3,fun z=>a4 (by lia)⟩
omit O in
theorem getD_eq (p:Array Nat) (k:Nat):p.getD k 0 = (p[k]?).getD 0:=by
 simp [Array.getD_eq_getD_getElem?]
omit O in
theorem je (hj:j<=p.size) (k:Nat):(kas_rev p i j).getD k 0 = if i<=k/\k < j then p.getD (i+j - 1 - k) 0 else p.getD k 0:=by
 rw [getD_eq,kas_rev,getElem?_mirror hj ((j - i) / 2) (by lia) k];by_cases h:i<=k/\k < j
 . rw [if_pos h];by_cases h2:(i<=k/\k < i+(j - i) / 2)\/(j - (j - i) / 2<=k/\k < j)
   . rw [if_pos h2,getD_eq]
   . rw [if_neg h2,getD_eq];have:i+j - 1 - k = k:=by lia
     rw [this]
 . rw [if_neg h];by_cases h2:(i<=k/\k < i+(j - i) / 2)\/(j - (j - i) / 2<=k/\k < j)
   . exfalso;lia
   . rw [if_neg h2,getD_eq]
omit O in
theorem iO (p:Array Nat) (i j:Nat):(kas_rev p i j).size = p.size:=mirror_size _ _ _ _
omit O in
theorem eM (p:Array Nat) (i j:Nat):(kas_rev p i j).Perm p:=mirror_perm _ _ _ _
theorem Dn'.rev (h:Dn' lt p n) (hn:n<=p.size):Up lt (kas_rev p 0 n) n:=fun i j h1 h2=>by
 rw [je hn,je hn,if_pos ⟨by lia,h2⟩,if_pos ⟨by lia,by lia⟩];exact h _ _ (by lia) (by lia)
noncomputable def Eqv (lt:Nat->Nat->Bool) (p:Array Nat) (a b:Nat):Prop:=∀ i j,a<=i->i < b->a<=j->j < b->lt (p.getD i 0) (p.getD j 0) = false
theorem Dn'.turn (h:Dn' lt p n) (hn:n<=p.size) (e:Eqv lt p a n):Dn' lt (kas_rev p a n) n:=fun i j h1 h2=>by
 rw [je hn,je hn];by_cases hi:a<=i
 . rw [if_pos ⟨hi,by lia⟩,if_pos ⟨by lia,h2⟩];exact e _ _ (by lia) (by lia) (by lia) (by lia)
 . rw [if_neg (by lia)];by_cases hj:a<=j
   . rw [if_pos ⟨hj,h2⟩];exact h _ _ (by lia) (by lia)
   . rw [if_neg (by lia)];exact h _ _ h1 h2
theorem qk:∀ (f:Nat) (p:Array Nat) (n q:Nat),1<=n->q < n->n+f<=p.size->Dn' lt p n->Eqv lt p (n - (q+1)) n ->
 let r:=ans lt (kas_desc f p n q)
 r.1.size = p.size/\r.1.Perm p/\n<=r.2.1/\r.2.1<=n+f/\r.2.2 < r.2.1/\Dn' lt r.1 r.2.1/\Eqv lt r.1 (r.2.1 - (r.2.2+1)) r.2.1
 | 0,p,n,q,hn,hq,hz,h,e=>⟨rfl,cM _,aA _,aA _,hq,h,e⟩
 | f+1,p,n,q,hn,hq,hz,h,e=>by
   unfold kas_desc;rw [fE]
   cases c:lt (p.getD n 0) (p.getD (n - 1) 0) with
   | true =>
     rw [if_pos rfl];have c':=O.as _ _ c
     have one:∀ p':Array Nat,Eqv lt p' (n+1 - (0+1)) (n+1):=fun p' i j h1 h2 h3 h4=>by
      have e1:i = j:=by lia
      rw [e1];exact O.refl _
     by_cases hq0:q > 0
     . rw [if_pos hq0]
       have hT:Dn' lt (kas_rev p (n - (q+1)) n) (n+1):=by
        refine (h.turn O (by lia) e).more O hn ?_;rw [je (by lia),je (by lia),if_pos ⟨by lia,by lia⟩,if_neg (by lia)];exact O.tr _ _ _ c' (e _ _ (by lia) (by lia) (by lia) (by lia))
       obtain ⟨a1,a2,a3,a4,a5,a6,a7⟩:=qk f (kas_rev p (n - (q+1)) n) (n+1) 0 (by lia) (by lia) (by rw [iO];lia) hT (one _);exact ⟨by rw [a1,iO],a2.trans (eM _ _ _),by lia,by lia,a5,a6,a7⟩
     . rw [if_neg hq0];obtain ⟨a1,a2,a3,a4,a5,a6,a7⟩:=qk f p (n+1) 0 (by lia) (by lia) (by lia) (h.more O hn c') (one _)
       exact ⟨a1,a2,by lia,by lia,a5,a6,a7⟩
   | false =>
     rw [if_neg au,fE]
     cases d:lt (p.getD (n - 1) 0) (p.getD n 0) with
     | true =>
       rw [if_pos rfl,iG]
       exact ⟨rfl,cM _,aA _,fW _ _,hq,h,e⟩
     | false =>
       rw [if_neg au]
       have hE:Eqv lt p (n+1 - (q+1+1)) (n+1):=fun i j h1 h2 h3 h4=>by
        by_cases ei:i = n
        . subst ei;by_cases ej:j = i
          . subst ej;exact O.refl _
          . exact O.tr _ _ _ (e _ _ (by lia) (by lia) (by lia) (by lia)) c
        . by_cases ej:j = n
          . subst ej;exact O.tr _ _ _ d (e _ _ (by lia) (by lia) (by lia) (by lia))
          . exact e _ _ (by lia) (by lia) (by lia) (by lia)
       obtain ⟨a1,a2,a3,a4,a5,a6,a7⟩:=qk f p (n+1) (q+1) (by lia) (by lia) (by lia) (h.more O hn d) hE;exact ⟨a1,a2,by lia,by lia,a5,a6,a7⟩
theorem vR (p:Array Nat) (n m:Nat) (hn:1<=n) (hm:n<=m) (hz:m<=p.size) (h:Dn' lt p n) :
 let r:=ans lt (kas_tail3 n m p)
 r.2.size = p.size/\r.2.Perm p/\1<=r.1/\r.1<=m/\Up lt r.2 r.1:=by
 unfold kas_tail3;rw [dI,iG];obtain ⟨a1,a2,a3,_⟩:=yV O (kas_rev p 0 n) (m - n) n hn (h.rev O (by lia));exact ⟨iO _ _ _,eM _ _ _,by lia,by lia,a3⟩
theorem ph (p:Array Nat) (n m:Nat) (hn:1<=n) (hm:n < m) (hz:m<=p.size) (h:Dn' lt p (n+1)) :
 let r:=ans lt (kas_descPart n m p)
 r.2.size = p.size/\r.2.Perm p/\1<=r.1/\r.1<=m/\Up lt r.2 r.1:=by
 unfold kas_descPart;rw [dI]
 have one:Eqv lt p (n+1 - (0+1)) (n+1):=fun i j h1 h2 h3 h4=>by
  have e1:i = j:=by lia
  rw [e1];exact O.refl _
 obtain ⟨a1,a2,a3,a4,a5,a6,a7⟩:=qk O (m - (n+1)) p (n+1) 0 (by lia) (by lia) (by lia) h one;generalize ans lt (kas_desc (m - (n+1)) p (n+1) 0) = r at a1 a2 a3 a4 a5 a6 a7;by_cases hq:r.2.2 > 0
 . rw [if_pos hq];obtain ⟨b1,b2,b3,b4,b5⟩:=vR O (kas_rev r.1 (r.2.1 - (r.2.2+1)) r.2.1) r.2.1 m (by lia) (by lia) (by rw [iO];lia) (a6.turn O (by lia) a7);exact ⟨by rw [b1,iO,a1],(b2.trans (eM _ _ _)).trans a2,b3,b4,b5⟩
 . rw [if_neg hq];obtain ⟨b1,b2,b3,b4,b5⟩:=vR O r.1 r.2.1 m (by lia) (by lia) (by lia) a6;exact ⟨by rw [b1,a1],b2.trans a2,b3,b4,b5⟩
theorem GF (p:Array Nat) (m:Nat) (hm:1<=m) (hz:m<=p.size) :
 let r:=ans lt (kas_count m p)
 r.2.size = p.size/\r.2.Perm p/\1<=r.1/\r.1<=m/\Up lt r.2 r.1:=by
 unfold kas_count;rw [dI];obtain ⟨a1,a2,a3,a4⟩:=yV O p (m - 1) 1 (aA _) (Up.one O p);generalize ans lt (kas_asc p (m - 1) 1) = n at a1 a2 a3 a4;by_cases e:(n == m) = true
 . rw [if_pos e,iG];exact ⟨rfl,cM _,a1,by lia,a3⟩
 . rw [if_neg e];have ne:n≠m:=fun z=>e (by rw [z];simp);have c:=a4 (by lia);by_cases h1:n > 1
   . rw [if_pos h1,fE]
     cases d:lt (p.getD 0 0) (p.getD (n - 1) 0) with
     | true =>
       rw [if_pos rfl,iG]
       exact ⟨rfl,cM _,a1,by lia,a3⟩
     | false =>
       rw [if_neg au]
       have hE:Eqv lt p 0 n:=fun i j _ hi _ hj=>by
        have x1:lt (p.getD 0 0) (p.getD j 0) = false:=O.tr _ _ _ (a3 j (n - 1) (by lia) (by lia)) d;exact O.tr _ _ _ x1 (a3 0 i (by lia) hi)
       have hD:Dn' lt (kas_rev p 0 n) (n+1):=by
        refine (Dn'.turn O (p:=p) (n:=n) (a:=0) (fun i j hi hj=>hE i j (by lia) (by lia) (by lia) (by omega)) (by lia) hE).more O a1 ?_;rw [je (by lia),je (by lia),if_pos ⟨by lia,by lia⟩,if_neg (by lia)];exact O.tr _ _ _ (O.as _ _ c) (hE _ _ (by lia) (by lia) (by lia) (by lia))
       obtain ⟨b1,b2,b3,b4,b5⟩:=ph O (kas_rev p 0 n) n m a1 (by lia) (by rw [iO];omega) hD;exact ⟨by rw [b1,iO],b2.trans (eM _ _ _),b3,b4,b5⟩
   . rw [if_neg h1];have e1:n = 1:=by lia
     subst e1
     have hD:Dn' lt p (1+1):=by
      refine Dn'.more O (n:=1) (fun i j h1 h2=>?_) (aA _) (O.as _ _ c);have e1:i = j:=by lia
      rw [e1];exact O.refl _
     exact ph O p 1 m (aA _) (by lia) hz hD
theorem qN (p:Array Nat) (k:Nat) (h:Up lt p k):∀ (f l r:Nat),l<=r->r<=k->r - l<=f->(∀ i,i < l->lt (p.getD k 0) (p.getD i 0) = false)->(∀ i,r<=i->i < k->lt (p.getD i 0) (p.getD k 0) = false) ->
 let x:=ans lt (kas_place p k f l r)
 x<=k/\(∀ i,i < x->lt (p.getD k 0) (p.getD i 0) = false)/\∀ i,x<=i->i < k->lt (p.getD i 0) (p.getD k 0) = false
 | 0,l,r,h1,h2,h3,h4,h5=>by
   have e:l = r:=by lia
   subst e
   exact ⟨h2,h4,h5⟩
 | f+1,l,r,h1,h2,h3,h4,h5=>by
   unfold kas_place;by_cases hlr:l ≥ r
   . rw [if_pos hlr,iG];have e:l = r:=by lia
     subst e;exact ⟨h2,h4,h5⟩
   . rw [if_neg hlr,fE]
     cases c:lt (p.getD k 0) (p.getD ((l+r) / 2) 0) with
     | true =>
       rw [if_pos rfl];refine qN p k h f l ((l+r) / 2) (by lia) (by lia) (by lia) h4 fun i hi hk=>?_
       exact O.tr _ _ _ (O.as _ _ c) (h _ i (by omega) hk)
     | false =>
       rw [if_neg au];refine qN p k h f ((l+r) / 2+1) r (by lia) h2 (by lia) (fun i hi=>?_) h5;exact O.tr _ _ _ (h i ((l+r) / 2) (by lia) (by lia)) c
theorem GP:∀ (f:Nat) (p:Array Nat) (k:Nat),k+f<=p.size->Up lt p k ->
 let r:=ans lt (kas_bin f p k)
 r.size = p.size/\r.Perm p/\Up lt r (k+f)
 | 0,p,k,_,h=>⟨rfl,cM _,h⟩
 | f+1,p,k,hz,h=>by
   unfold kas_bin;rw [dI];obtain ⟨a1,a2,a3⟩:=qN O p k h k 0 k (by lia) (by lia) (by lia) (fun i hi=>by lia) (fun i h1 h2=>by lia);generalize ans lt (kas_place p k k 0 k) = l at a1 a2 a3
   have bg:∀ t,(bubble p k (k - l)).getD t 0 = if t = l then p.getD k 0 else if l < t/\t<=k then p.getD (t - 1) 0 else p.getD t 0:=fun t=>by
    rw [getD_eq,getElem?_bubble (by lia) (k - l) (by lia) t];have e1:k - (k - l) = l:=by lia
    rw [e1];by_cases h1:t = l
    . rw [if_pos h1,if_pos h1,getD_eq]
    . rw [if_neg h1,if_neg h1];by_cases h2:l < t/\t<=k
      . rw [if_pos h2,if_pos h2,getD_eq]
      . rw [if_neg h2,if_neg h2,getD_eq]
   have hU:Up lt (bubble p k (k - l)) (k+1):=fun i j h1 h2=>by
    rw [bg i,bg j];by_cases i1:i = l
    . rw [if_pos i1];by_cases j1:j = l
      . rw [if_pos j1];exact O.refl _
      . rw [if_neg j1,if_pos ⟨by lia,by lia⟩];exact a3 _ (by lia) (by lia)
    . rw [if_neg i1];by_cases i2:l < i/\i<=k
      . rw [if_pos i2,if_neg (by lia),if_pos ⟨by lia,by lia⟩];exact h _ _ (by lia) (by lia)
      . rw [if_neg i2];by_cases j1:j = l
        . rw [if_pos j1];exact a2 i (by lia)
        . rw [if_neg j1];by_cases j2:l < j/\j<=k
          . rw [if_pos j2];exact h _ _ (by lia) (by lia)
          . rw [if_neg j2];exact h _ _ h1 (by lia)
   obtain ⟨b1,b2,b3⟩:=GP f (bubble p k (k - l)) (k+1) (by rw [bubble_size];lia) hU;exact ⟨by rw [b1,bubble_size],b2.trans (JL _ _ _),by rw [show k+(f+1) = k+1+f by lia];exact b3⟩
theorem HW (n:Nat) (hn:1<=n) :
 let r:=ans lt (kas_sort n)
 r.size = n/\r.Perm (fO (bD n))/\Up lt r n:=by
 unfold kas_sort;rw [dI];have hs:(fO (bD n)).size = n:=by simp
 obtain ⟨a1,a2,a3,a4,a5⟩:=GF O (fO (bD n)) n hn (by lia);generalize ans lt (kas_count n (fO (bD n))) = r at a1 a2 a3 a4 a5;by_cases h:r.1 < n
 . rw [if_pos h];have e:max r.1 1 = r.1:=by lia
   rw [e];obtain ⟨b1,b2,b3⟩:=GP O (n - r.1) r.2 r.1 (by lia) a5;have e2:r.1+(n - r.1) = n:=by lia
   rw [e2] at b3;exact ⟨by lia,b2.trans a2,b3⟩
 . rw [if_neg h,iG];have e:r.1 = n:=by lia
   exact ⟨by lia,a2,by rw [<- e];exact a5⟩
end
end PP
end
section
namespace PP
open PySem
set_option genInjectivity true in
inductive D where
 | non | bl (b:Bool) | int (i:Int) | str (x:Str) | lst (ds:List D) | tup (ds:List D) | fn (k:Nat) (ds:List D)
 deriving Inhabited
mutual
noncomputable def eqD:D->D->Bool
 | .non,.non=>true
 | .bl a,.bl b=>a == b
 | .bl a,.int b=>(if a then 1 else 0) == b
 | .int a,.bl b=>a == (if b then 1 else 0)
 | .int a,.int b=>a == b
 | .str a,.str b=>a == b
 | .lst a,.lst b=>gy a b
 | .tup a,.tup b=>gy a b
 | _,_=>false
noncomputable def gy:List D->List D->Bool
 | [],[]=>true
 | x::xs,y::ys=>eqD x y && gy xs ys
 | _,_=>false
end
mutual
noncomputable def ltD:D->D->Option Bool
 | .int a,.int b=>some (decide (a < b))
 | .str a,.str b=>some (decide (a.cps.toList < b.cps.toList))
 | .tup a,.tup b=>dX a b
 | _,_=>none
noncomputable def dX:List D->List D->Option Bool
 | [],[]=>some false
 | [],_::_=>some true
 | _::_,[]=>some false
 | x::xs,y::ys=>if eqD x y = true then dX xs ys else ltD x y
end
mutual
noncomputable def dep:D->Nat
 | .lst ds | .tup ds=>bZ ds+1
 | .fn _ _=>100000
 | _=>0
noncomputable def bZ:List D->Nat
 | []=>0
 | x::xs=>max (dep x) (bZ xs)
end
mutual
noncomputable def lf:D->Bool
 | .lst _=>false
 | .fn _ _=>false
 | .tup ds=>lfL ds
 | _=>true
noncomputable def lfL:List D->Bool
 | []=>true
 | x::xs=>lf x && lfL xs
end
noncomputable def flat:D->Bool
 | .non | .bl _ | .int _ | .str _=>true
 | _=>false
noncomputable def tv:D->Option Bool
 | .non=>some false
 | .bl b=>some b
 | .int i=>some (i != 0)
 | .str x=>if x.length<=sizeLine then some ((x.length:Int) != 0) else none
 | .lst ds | .tup ds=>some (!ds.isEmpty)
 | .fn _ _=>none
inductive Op where
 | add | sub | mul | mod | fdiv
 deriving DecidableEq
inductive Cop where
 | lt | le | gt | eq | ne | isin | notin
 deriving DecidableEq
inductive Blt where
 | len | max | toInt | toStr | toTup | toLst | any | sorted | isBool
 deriving DecidableEq
noncomputable def sX (i j:Int):Bool:=(decide (-(2 ^ 64) < i) && decide (i < 2 ^ 64)) || (decide (-(2 ^ 64) < j) && decide (j < 2 ^ 64)) || (decide (i.natAbs < 2 ^ 200) && decide (j.natAbs < 2 ^ 200))
noncomputable def yB (x:Str) (n:Nat):Str:=⟨(aC n x.cps.toList).flatten.toArray⟩
noncomputable def Nn:D->D->Option D
 | .int a,.int b=>some (.int (a+b))
 | .str a,.str b=>if a.length+b.length<=sizeLine then some (.str (a++b)) else none
 | .tup [],.tup b=>some (.tup b)
 | .tup (x::a),.tup b=>if (x::a).length+b.length<=sizeLine then some (.tup (x::a++b)) else none
 | .lst a,.lst b=>if a.length+b.length<=sizeLine then some (.lst (a++b)) else none
 | _,_=>none
noncomputable def Qh:D->D->Option D
 | .int a,.int b=>some (.int (a+b))
 | .tup (x::a),.tup b=>if (x::a).length+b.length<=sizeLine then some (.tup (x::a++b)) else none
 | _,_=>none
noncomputable def Ld:D->D->Option D
 | .int a,.int b=>some (.int (a - b))
 | _,_=>none
noncomputable def Mx:D->D->Option D
 | .int a,.int b=>if sX a b then some (.int (a * b)) else none
 | .str a,.int b=>if 0<=b/\b<=1000/\a.length<=1000 then some (.str (yB a b.toNat)) else none
 | _,_=>none
noncomputable def My:D->D->Option D
 | .int a,.int b=>if 0 < b then some (.int (a % b)) else none
 | _,_=>none
noncomputable def Gy:D->D->Option D
 | .int a,.int b=>if 0 < b/\b < 1000000000000000000000000000000000000000000000000000000000000 then some (.int (a / b)) else none
 | _,_=>none
noncomputable def opD:Op->D->D->Option D
 | .add=>Nn | .sub=>Ld | .mul=>Mx | .mod=>My | .fdiv=>Gy
noncomputable def kin:D->D->Bool
 | .bl _,.bl _ | .int _,.int _ | .str _,.str _ | .lst _,.lst _ | .tup _,.tup _=>true
 | _,_=>false
noncomputable def iU (a b:D):Bool:=kin a b && decide (min (dep a) (dep b)<=150) && decide (max (dep a) (dep b) < 100000)
noncomputable def OD:D->D->Bool
 | .int _,.str _=>true
 | .str _,.int _=>true
 | _,_=>false
noncomputable def Ma (p:Int->Int->Bool):D->D->Option Bool
 | .int a,.int b=>some (p a b)
 | _,_=>none
noncomputable def uH (y x:Str):Bool:=!(qv y x 0 y.length 1).isEmpty
noncomputable def inD (a:D):D->Option Bool
 | .lst ds=>if dep a<=150/\bZ ds < 99999 then some (ds.any fun y=>eqD y a) else none
 | .tup ds=>if dep a<=150/\bZ ds < 99999 then some (ds.any fun y=>eqD y a) else none
 | .str y=>match a with
   | .str x=>some (uH y x)
   | _=>none
 | _=>none
noncomputable def kS (a b:D):Option Bool:=if min (dep a) (dep b)<=150/\max (dep a) (dep b) < 100000 then ltD a b else none
noncomputable def gB (ds:List D) (i j:Nat):Bool:=(kS (ds.getD i .non) (ds.getD j .non)).getD false
noncomputable def dh (ds:List D):List D:=if ds.length < 2 then ds else (ans (gB ds) (PySem.W.kas_sort ds.length)).toList.map fun i=>ds.getD i .non
noncomputable def bH:D->Nat
 | .str _=>1
 | .int _=>2
 | .tup (.str _::_)=>3
 | .tup (.int _::_)=>4
 | _=>0
noncomputable def sortable (ds:List D):Bool:=decide (ds.length < 64) && (ds.all fun x=>bH x != 0 && bH x == bH (ds.getD 0 .non)) && ds.all fun x=>ds.all fun y=>(kS x y).isSome
mutual
noncomputable def hb:D->Bool
 | .str _ | .int _=>true
 | .tup ds=>hbL ds
 | _=>false
noncomputable def hbL:List D->Bool
 | []=>true
 | d::ds=>hb d && hbL ds
end
noncomputable def hok:D->Bool
 | .tup (.str x::ds)=>hbL ds && decide (bZ ds<=7)
 | _=>false
noncomputable def pR (ds:List D) (d:D):List D:=if ds.any (fun y=>eqD y d) then ds else ds++[d]
noncomputable def kB (ds:List D):List D:=ds.foldl pR []
noncomputable def ltB (a b:D):Bool:=(kS a b).getD false
noncomputable def tot (ds:List D):Bool:=ds.all fun a=>ds.all fun b=>!(ltB a b && ltB b a) && (ltB a b || ltB b a || eqD a b) && ds.all fun c=>ltB b a || ltB c b || !ltB c a
noncomputable def leD:D->D->Option Bool
 | .int a,.int b=>some (decide (a<=b))
 | .str a,.str b=>some (!decide (b.cps.toList < a.cps.toList))
 | _,_=>none
noncomputable def xC:Cop->D->D->Option Bool
 | .lt,x,y=>kS x y
 | .le,x,y=>leD x y
 | .gt,x,y=>Ma (fun a b=>decide (b < a)) x y
 | .eq,a,b=>if iU a b then some (eqD a b) else if OD a b = true then some false else none
 | .ne,a,b=>if iU a b then some (!eqD a b) else none
 | .isin,a,y=>inD a y
 | .notin,a,y=>(inD a y).map (!·)
noncomputable def ixD:D->D->Option D
 | .lst ds,.int i=>L2.atI ds i
 | .tup ds,.int i=>L2.atI ds i
 | .str x,.int i=>if x.length<=sizeLine then (L2.atI x.cps.toList i).map fun c=>.str ⟨#[c]⟩ else none
 | _,_=>none
noncomputable def cutD (ds:List D) (lo hi:Option Int):List D:=(ds.drop (HT.sIx ds.length 0 lo)).take (HT.sIx ds.length ds.length hi - HT.sIx ds.length 0 lo)
noncomputable def slD:D->Option Int->Option Int->Option D
 | .lst ds,lo,hi=>some (.lst (cutD ds lo hi))
 | .tup ds,lo,hi=>if HT.sIx ds.length 0 lo = 0/\HT.sIx ds.length ds.length hi = ds.length then none else some (.tup (cutD ds lo hi))
 | .str x,lo,hi=>if x.length<=sizeLine then some (.str (Txt.slice x lo hi)) else none
 | _,_,_=>none
noncomputable def Aj:List D->Option (List Int)
 | []=>some []
 | .int i::r=>(Aj r).map (i::·)
 | _=>none
noncomputable def Jl:List D->Option D
 | [.str x]=>if x.length<=sizeLine then some (.int x.length) else none
 | [.lst ds]=>some (.int ds.length)
 | [.tup ds]=>some (.int ds.length)
 | _=>none
noncomputable def vP:List Int->Int
 | []=>0
 | n::ns=>ns.foldl (fun a b=>if b > a then b else a) n
noncomputable def maxD:List D->Option D
 | [.int i,.int j]=>some (.int (if j > i then j else i))
 | [.lst ds]=>(Aj ds).bind fun ns=>if ns = [] then none else some (.int (vP ns))
 | _=>none
noncomputable def qB:List D->Option D
 | [.int i]=>some (.int i)
 | [.bl b]=>some (.int (if b then 1 else 0))
 | [.str x]=>if x.length<=640 then (PySem.intText? x).map .int else none
 | _=>none
noncomputable def ug:List D->Option D
 | [.int i]=>if i.natAbs.log2 < 1920 then some (.str (toString i)) else none
 | _=>none
noncomputable def uf:List D->Option D
 | [.lst ds]=>some (.tup ds)
 | [.tup ds]=>some (.tup ds)
 | _=>none
noncomputable def oh:List D->Option D
 | [.lst ds]=>some (.lst ds)
 | [.tup ds]=>some (.lst ds)
 | _=>none
noncomputable def mB:List D->Option (List Bool)
 | []=>some []
 | .bl i::r=>(mB r).map (i::·)
 | _=>none
noncomputable def JF:List D->Option D
 | [.lst ds]=>(mB ds).map fun bs=>.bl (bs.any id)
 | _=>none
noncomputable def pY:List D->Option D
 | [.lst ds]=>if sortable ds = true then some (.lst (dh ds)) else none
 | _=>none
noncomputable def iC:List D->Option D
 | [.bl _]=>some (.bl true)
 | [.fn _ _]=>none
 | [_]=>some (.bl false)
 | _=>none
noncomputable def lj:Blt->List D->Option D
 | .len=>Jl | .max=>maxD | .toInt=>qB | .toStr=>ug | .toTup=>uf | .toLst=>oh | .any=>JF | .sorted=>pY
 | .isBool=>iC
inductive Sl where
 | no | val (d:D) | own (ds:List D) | fnc (k:Nat) (cs:List D)
 deriving Inhabited
abbrev Loc:=List Sl
inductive Tg where
 | nm (i:Nat)
 | tp (is:List Nat)
noncomputable def fS:List D->Option (List Str)
 | []=>some []
 | .str x::r=>(fS r).map (x::·)
 | _=>none
inductive Mt | split | part | ends | join | index
mutual
inductive E where
 | var (i:Nat)
 | pk (i:Nat)
 | glob (g:Nat)
 | int (i:Int) | bl (b:Bool) | non | str (x:Str)
 | bin (op:Op) (a b:E)
 | cmp (op:Cop) (a b:E)
 | and (a b:E) | or (a b:E) | not (a:E) | neg (a:E)
 | ite (c a b:E)
 | tup (es:Es) | lst (es:Es)
 | ix (a b:E)
 | sl (a:E) (lo hi:Eo)
 | call (f:Nat) (es:Es)
 | blt (f:Blt) (es:Es)
 | bad
 | callv (i:Nat) (es:Es)
 | callF (f:Nat) (es:Es) (i:Nat)
 | isdig (i:Nat)
 | ssd (a:E)
 | comp (k:Nat) (tg:Tg) (src:It) (ifs:Eo) (elt:E)
 | sset (k:Nat) (tg1:Tg) (src1:It) (tg2:Tg) (src2:It) (ifs:Eo) (elt:E)
inductive Es where
 | nil | cons (e:E) (es:Es)
inductive Eo where
 | no | yes (e:E)
inductive It where
 | rng (e:E) | sq (e:E)
end
noncomputable def get (δ:Loc) (i:Nat):Option D:=match δ[i]? with
 | some (.val d)=>some d
 | some (.own ds)=>some (.lst ds)
 | _=>none
noncomputable def Gq (δ:Loc) (i:Nat):Option D:=match δ[i]? with
 | _=>get δ i
noncomputable def demote (δ:Loc) (i:Nat):Loc:=match δ[i]? with
 | some (.own ds)=>δ.set i (.val (.lst ds))
 | _=>δ
noncomputable def eC (δ:Loc):Tg->D->Option Loc
 | .nm i,d=>if i < δ.length then some (δ.set i (.val d)) else none
 | .tp is,.tup ds=>if is.length = ds.length/\is.all (· < δ.length) = true then some ((is.zip ds).foldl (fun δ p=>δ.set p.1 (.val p.2)) δ) else none
 | .tp is,.lst ds=>if is.length = ds.length/\is.all (· < δ.length) = true then some ((is.zip ds).foldl (fun δ p=>δ.set p.1 (.val p.2)) δ) else none
 | _,_=>none
noncomputable def items:D->Option (List D)
 | .lst ds=>some ds
 | .tup ds=>some ds
 | .str x=>if x.length<=sizeLine then some (x.cps.toList.map fun c=>.str ⟨#[c]⟩) else none
 | _=>none
noncomputable def uv (lo:Int) (n:Nat):List D:=(bD n).map fun (i:Nat)=>D.int (lo+i)
noncomputable def nG (f:D->Loc->Option (Option D × Loc)):List D->Loc->Option (List D × Loc)
 | [],δ=>some ([],δ)
 | x::xs,δ=>do
   let (o,δ1) <- f x δ
   let (ys,δ2) <- nG f xs δ1
   return (match o with | some y=>y::ys | none=>ys,δ2)
noncomputable def gI (f:D->Loc->Option (List D × Loc)):List D->Loc->Option (List D × Loc)
 | [],δ=>some ([],δ)
 | x::xs,δ=>do
   let (o,δ1) <- f x δ
   let (ys,δ2) <- gI f xs δ1
   return (o++ys,δ2)
noncomputable def ko (ts:List Str) (x:Str):List Str:=if x∈ts then ts else ts++[x]
noncomputable def ia (xs:List Str):List Str:=xs.foldl ko []
noncomputable def lfO:Option D->Option D
 | some r=>if lf r = true then some r else none
 | none=>none
noncomputable def lY (δ:Loc):List Nat->Option (List D)
 | []=>some []
 | i::r=>match get δ i with
   | some d=>if flat d = true then (lY δ r).map (d::·) else none
   | none=>none
structure Cl where
 call:Nat->List D->Option D
 gl:List D
 hf:Nat->Bool
section
variable (cx:Cl)
mutual
noncomputable def evE:E->Loc->Option (D × Loc)
 | .var i,δ=>do return (<- Gq δ i,demote δ i)
 | .pk i,δ=>do return (<- get δ i,δ)
 | .glob g,δ=>do return (<- cx.gl[g]?,δ)
 | .int i,δ=>some (.int i,δ)
 | .bl b,δ=>some (.bl b,δ)
 | .non,δ=>some (.non,δ)
 | .str x,δ=>some (.str x,δ)
 | .bin op a b,δ=>do
   let (x,δ1) <- evE a δ
   let (y,δ2) <- evE b δ1
   return (<- opD op x y,δ2)
 | .cmp op a b,δ=>do
   let (x,δ1) <- evE a δ
   let (y,δ2) <- evE b δ1
   return (.bl (<- xC op x y),δ2)
 | .and a b,δ=>do
   match <- evE a δ with
   | (.bl true,δ1)=>evE b δ1
   | (.bl false,δ1)=>some (.bl false,δ1)
   | _=>none
 | .or a b,δ=>do
   match <- evE a δ with
   | (.bl true,δ1)=>some (.bl true,δ1)
   | (.bl false,δ1)=>evE b δ1
   | _=>none
 | .not a,δ=>do
   match <- evE a δ with
   | (.bl b,δ1)=>some (.bl (!b),δ1)
   | _=>none
 | .neg a,δ=>do
   match <- evE a δ with
   | (.int i,δ1)=>some (.int (-i),δ1)
   | _=>none
 | .ssd a,δ=>do
   match <- evE a δ with
   | (.lst ds,δ1)=>if (ds.all hok && sortable (kB ds) && tot (kB ds)) = true then some (.lst (dh (kB ds)),δ1) else none
   | _=>none
 | .ite c a b,δ=>do
   let (k,δ1) <- evT c δ
   if k then evE a δ1 else evE b δ1
 | .tup es,δ=>do
   let (ds,δ1) <- hZ es δ
   if ds.length<=sizeLine then return (.tup ds,δ1) else none
 | .lst es,δ=>do
   let (ds,δ1) <- hZ es δ
   if ds.length<=sizeLine then return (.lst ds,δ1) else none
 | .ix a b,δ=>do
   let (x,δ1) <- evE a δ
   let (y,δ2) <- evE b δ1
   return (<- ixD x y,δ2)
 | .sl a lo hi,δ=>do
   let (x,δ1) <- evE a δ
   let (l,δ2) <- evO lo δ1
   let (h,δ3) <- evO hi δ2
   return (<- slD x l h,δ3)
 | .call f es,δ=>do
   let (ds,δ1) <- hZ es δ
   return (<- cx.call f ds,δ1)
 | .blt f es,δ=>do
   let (ds,δ1) <- hZ es δ
   return (<- lj f ds,δ1)
 | .callv i es,δ=>do
   let (ds,δ1) <- hZ es δ
   match δ[i]? with
   | some (.fnc k cs)=>if lfL ds = true then (lfO (cx.call k (ds++cs))).map fun r=>(r,δ1) else none
   | _=>none
 | .callF f es i,δ=>do
   let (ds,δ1) <- hZ es δ
   match δ1[i]? with
   | some (.fnc k cs)=>if cx.hf f = true then (cx.call f (ds++[.fn k cs])).map fun r=>(r,δ1) else none
   | _=>none
 | .bad,_=>none
 | .isdig i,δ=>do
   match <- get δ i with
   | .str x=>some (.bl (decide (x.length > 0) && x.cps.all da),δ)
   | _=>none
 | .comp k tg src ifs elt,δ=>do
   let (ds,δ1) <- evI src δ
   let (ys,δ2) <- nG (fun x δ0=>do
    let δ2 <- eC (δ0++aC k .no) tg x
    let (b,δ3) <- evG ifs δ2
    if b then do
     let (y,δ4) <- evE elt δ3
     return (some y,δ4.take δ0.length)
    else return (none,δ3.take δ0.length)) ds δ1
   if ys.length<=sizeLine then return (.lst ys,δ2) else none
 | .sset k tg1 src1 tg2 src2 ifs elt,δ=>do
   let (ds,δ1) <- evI src1 δ
   let (ys,δ2) <- gI (fun x δ0=>do
    let δa <- eC (δ0++aC k .no) tg1 x
    let (es,δb) <- evI src2 δa
    let (zs,δc) <- gI (fun y δi=>do
     let δd <- eC δi tg2 y
     let (b,δe) <- evG ifs δd
     if b then do
      let (z,δf) <- evE elt δe
      return ([z],δf)
     else return ([],δe)) es δb
    return (zs,δc.take δ0.length)) ds δ1
   match fS ys with
   | some xs=>if xs.length < 4000/\(ia xs).length < 64 then some (.lst (dh ((ia xs).map .str)),δ2) else none
   | none=>none
noncomputable def evT:E->Loc->Option (Bool × Loc)
 | .and a b,δ=>do
   let (k,δ1) <- evT a δ
   if k then evT b δ1 else some (false,δ1)
 | .or a b,δ=>do
   let (k,δ1) <- evT a δ
   if k then some (true,δ1) else evT b δ1
 | .not a,δ=>do
   let (k,δ1) <- evT a δ
   return (!k,δ1)
 | .cmp op a b,δ=>do
   let (x,δ1) <- evE a δ
   let (y,δ2) <- evE b δ1
   return (<- xC op x y,δ2)
 | .var i,δ=>do
   let d <- get δ i
   return (<- tv d,δ)
 | .pk i,δ=>do
   let d <- get δ i
   return (<- tv d,δ)
 | .call f es,δ=>do
   let (ds,δ1) <- hZ es δ
   let d <- cx.call f ds
   return (<- tv d,δ1)
 | .blt f es,δ=>do
   let (ds,δ1) <- hZ es δ
   let d <- lj f ds
   return (<- tv d,δ1)
 | _,_=>none
noncomputable def hZ:Es->Loc->Option (List D × Loc)
 | .nil,δ=>some ([],δ)
 | .cons e es,δ=>do
   let (d,δ1) <- evE e δ
   let (ds,δ2) <- hZ es δ1
   return (d::ds,δ2)
noncomputable def evO:Eo->Loc->Option (Option Int × Loc)
 | .no,δ=>some (none,δ)
 | .yes e,δ=>do
   match <- evE e δ with
   | (.int i,δ1)=>some (some i,δ1)
   | _=>none
noncomputable def evG:Eo->Loc->Option (Bool × Loc)
 | .no,δ=>some (true,δ)
 | .yes e,δ=>evT e δ
noncomputable def evI:It->Loc->Option (List D × Loc)
 | .rng e,δ=>do
   match <- evE e δ with
   | (.int j,δ1)=>if -(2 ^ 62)<=j/\j < 2 ^ 62 then some (uv 0 j.toNat,δ1) else none
   | _=>none
 | .sq e,δ=>do
   let (d,δ1) <- evE e δ
   return (<- items d,δ1)
end
end
inductive Out where
 | nx (δ:Loc) | rt (d:D) (δ:Loc) | ro (d:D) (δ:Loc)
mutual
inductive S where
 | asg (tg:Tg) (e:E)
 | new (i:Nat) (e:E)
 | cmp (own:Bool) (i:Nat) (e:E)
 | ret (e:E)
 | retL (f:Nat) (es:Es) (k:Nat) (caps:List Nat)
 | ifs (c:E) (a b:Ss)
 | for_ (tg:Tg) (src:It) (body:Ss)
 | forZ (tg:Tg) (es:Es) (body:Ss)
 | append (i:Nat) (e:E)
 | extend (i:Nat) (e:E)
 | setix (i:Nat) (j e:E)
 | bad
inductive Ss where
 | nil | cons (s:S) (ss:Ss)
end
noncomputable def forL (f:D->Loc->Option Out):List D->Loc->Option Out
 | [],δ=>some (.nx δ)
 | x::xs,δ=>match f x δ with
   | some (.nx δ1)=>forL f xs δ1
   | some (.rt d δ1)=>some (.rt d δ1)
   | some (.ro ds δ1)=>some (.ro ds δ1)
   | none=>none
noncomputable def EC:D->Option (List D)
 | .lst ds=>some ds
 | .tup ds=>some ds
 | _=>none
noncomputable def kJ (xs ys:List D):List D:=(xs.zip ys).map fun p=>.tup [p.1,p.2]
noncomputable def uB:Nat:=1000000
section
variable (cx:Cl)
mutual
noncomputable def evS:S->Loc->Option Out
 | .asg tg e,δ=>do
   let (d,δ1) <- evE cx e δ
   return .nx (<- eC δ1 tg d)
 | .new i e,δ=>do
   match <- evE cx e δ with
   | (.lst ds,δ1)=>if i < δ1.length then some (.nx (δ1.set i (.own ds))) else none
   | _=>none
 | .cmp own i e,δ=>do
   match <- evE cx e δ with
   | (.lst ds,δ1)=>if i < δ1.length then some (.nx (δ1.set i (if own then .own ds else .val (.lst ds)))) else none
   | _=>none
 | .ret e,δ=>do
   let (d,δ1) <- evE cx e δ
   return .rt d δ1
 | .retL f es k caps,δ=>do
   let (ds,δ1) <- hZ cx es δ
   let cs <- lY δ1 caps
   if cx.hf f = true then (lfO (cx.call f (ds++[.fn k cs]))).map fun r=>.rt r δ1 else none
 | .ifs c a b,δ=>do
   let (k,δ1) <- evT cx c δ
   if k then eV a δ1 else eV b δ1
 | .for_ tg src body,δ=>do
   let (ds,δ1) <- evI cx src δ
   forL (fun x δ0=>match eC δ0 tg x with
    | some δ2=>eV body δ2
    | none=>none) ds δ1
 | .forZ tg es body,δ=>do
   let (ds,δ1) <- hZ cx es δ
   match ds with
   | [x,y]=>(match EC x,EC y with
     | some xs,some ys=>(forL (fun p δ0=>(match eC δ0 tg p with
       | some δ2=>eV body δ2
       | none=>none)) (kJ xs ys) δ1)
     | _,_=>none)
   | _=>none
 | .append i e,δ=>match δ[i]? with
   | some (.own _)=>do
     let (d,δ1) <- evE cx e δ
     match δ1[i]? with
     | some (.own ds)=>if ds.length < sizeLine then some (.nx (δ1.set i (.own (ds++[d])))) else none
     | _=>none
   | _=>none
 | .extend i e,δ=>match δ[i]? with
   | some (.own _)=>do
     match <- evE cx e δ with
     | (.lst ys,δ1)=>match δ1[i]? with
       | some (.own ds)=>if ds.length+ys.length<=sizeLine then some (.nx (δ1.set i (.own (ds++ys)))) else none
       | _=>none
     | _=>none
   | _=>none
 | .setix i j e,δ=>do
   let (d,δ1) <- evE cx e δ
   match δ1[i]? with
   | some (.own _)=>do
     match <- evE cx j δ1 with
     | (.int k,δ2)=>match δ2[i]? with
       | some (.own ds)=>match L2.ixN ds.length k with
         | some m=>some (.nx (δ2.set i (.own (ds.set m d))))
         | none=>none
       | _=>none
     | _=>none
   | _=>none
 | .bad,_=>none
noncomputable def eV:Ss->Loc->Option Out
 | .nil,δ=>some (.nx δ)
 | .cons s ss,δ=>match evS s δ with
   | some (.nx δ1)=>eV ss δ1
   | o=>o
end
end
structure Fd where
 name:Str
 ps:List Str
 loc:List Str
 body:Ss
 hf:Bool:=false
noncomputable def outD:Option Out->Option D
 | some (.rt d _)=>some d
 | some (.ro d _)=>some d
 | some (.nx _)=>some .non
 | _=>none
noncomputable def LY:Option Out->Option D
 | some (.ro d _)=>some d
 | _=>none
noncomputable def init (n:Nat) (ds:List D):Loc:=ds.map .val++aC (n - ds.length) .no
noncomputable def hfs (G:List Fd) (f:Nat):Bool:=match G[f]? with
 | some fd=>fd.hf
 | none=>false
noncomputable def oZ (n:Nat) (ds:List D) (k:Nat) (cs:List D):Loc:=ds.map .val++Sl.fnc k cs::aC (n - (ds.length+1)) .no
noncomputable def entry (hf:Bool) (n:Nat) (ds:List D):Option Loc:=match hf with
 | false=>some (init n ds)
 | true=>match ds.getLast? with
   | some (.fn k cs)=>some (oZ n ds.dropLast k cs)
   | _=>none
noncomputable def run (G:List Fd) (gl:List D):Nat->Nat->List D->Option D
 | 0,_,_=>none
 | n+1,f,ds=>match G[f]? with
   | some fd=>if ds.length = fd.ps.length then (match entry fd.hf (fd.ps++fd.loc).length ds with
     | some δ=>outD (eV ⟨run G gl n,gl,hfs G⟩ fd.body δ)
     | none=>none) else none
   | none=>match G[f - uB]? with
     | some fd=>if uB<=f/\ds.length = fd.ps.length then (match entry fd.hf (fd.ps++fd.loc).length ds with
       | some δ=>LY (eV ⟨run G gl n,gl,hfs G⟩ fd.body δ)
       | none=>none) else none
     | none=>none
noncomputable def bS:E->Bool
 | .pk _=>true
 | _=>false
mutual
noncomputable def np:E->Bool
 | .bin _ a b | .cmp _ a b | .and a b | .or a b | .ix a b=>np a && np b
 | .not a=>np a
 | .neg a=>np a
 | .ssd a=>np a
 | .ite c a b=>np c && np a && np b
 | .tup es | .lst es | .call _ es | .blt _ es | .callv _ es | .callF _ es _=>npS es
 | .sl a lo hi=>np a && npO lo && npO hi
 | .comp _ _ src ifs elt=>npI src && npO ifs && np elt
 | .sset _ _ src1 _ src2 ifs elt=>npI src1 && npI src2 && npO ifs && np elt
 | _=>true
noncomputable def npS:Es->Bool
 | .nil=>true
 | .cons e es=>np e && npS es
noncomputable def npO:Eo->Bool
 | .no=>true
 | .yes e=>np e
noncomputable def npI:It->Bool
 | .rng e=>np e
 | .sq e=>np e
end
end PP
example:PP.evE ⟨fun _ _=>none,[],fun _=>false⟩ (.bin .add (.int 1) (.int 2)) [] = some (.int 3,[]):=rfl
end
section
namespace PP
open PySem L2
noncomputable def KLs (K:PySem.W.Frag) (a:aw) (xs:List V):Prop:=∃ (its:Array af) (n:Nat),K.lookup a = some ⟨.type "list",none,.seq its n,#[]⟩/\its.size<=sizeLine/\Vals xs its.toList
noncomputable def Ls (K:PySem.W.Frag) (H:Hp) (F:aw->Prop) (a:aw) (xs:List V):Prop:=(Rd H a (.lst xs)/\¬ F a)\/KLs K a xs
noncomputable def LsB (K:PySem.W.Frag) (H:Hp) (a:aw) (xs:List V):Prop:=Rd H a (.lst xs)\/KLs K a xs
theorem Ls.b {K:PySem.W.Frag} {H:Hp} {F:aw->Prop} {a:aw} {xs:List V} (h:Ls K H F a xs):LsB K H a xs:=h.imp (·.1) id
theorem LsB.sq (h:LsB K H a xs):SqL K H a xs:=by
 rcases h with h | ⟨its,n,h1,h2,h3⟩
 . exact .inl h
 . exact .inr ⟨_,its,n,h1,rfl,rfl,rfl,h2,h3⟩
theorem Ls.sq (h:Ls K H F a xs):SqL K H a xs:=h.b.sq
theorem LsB.obj (I:Inv X pins σ H s) (h:LsB X.K H a xs) :
 ∃ (its:List af) (n:Nat),Vals xs its/\s.heap.get? a = some { cls:=.type "list",data:=.seq its.toArray n }/\xs.length<=sizeLine:=by
 rcases h with h | ⟨its,n,h1,h2,h3⟩
 . obtain ⟨z,its,n,r,e⟩:=h.ok I.hok;exact ⟨its,n,r,e,z⟩
 . refine ⟨its.toList,n,h3,?_,?_⟩
   . have:=I.kIn a _ h1;simpa using this
   . have:=h3.length;rw [this];simpa using h2
mutual
noncomputable def Rel (K:PySem.W.Frag) (H:Hp) (F:aw->Prop):D->V->Prop
 | .non,v=>v = .non
 | .bl b,v=>v = .bl b
 | .int i,v=>v = .int i
 | .str x,v=>v = .str x
 | .lst ds,v=>∃ a xs,v = .ref a/\Ls K H F a xs/\aK K H F ds xs
 | .tup ds,v=>∃ a xs,v = .ref a/\SqT K H a xs/\aK K H F ds xs
 | .fn _ _,_=>False
noncomputable def aK (K:PySem.W.Frag) (H:Hp) (F:aw->Prop):List D->List V->Prop
 | [],xs=>xs = []
 | d::ds,xs=>∃ y ys,xs = y::ys/\Rel K H F d y/\aK K H F ds ys
end
noncomputable def NT:HO->Prop
 | .tbl _=>False
 | _=>True
structure Sim (H H':Hp):Prop where
 nt:∀ b o,NT o->H b = some o->H' b = some o
 tb:∀ b ps,H b = some (.tbl ps)->∃ qs,H' b = some (.tbl qs)
theorem Sim.of (h:iH H H'):Sim H H':=⟨fun b o _ e=>h b o e,fun b ps e=>⟨ps,h b _ e⟩⟩
theorem Sim.refl (H:Hp):Sim H H:=⟨fun b o _ e=>e,fun b ps e=>⟨ps,e⟩⟩
theorem Sim.trans (a:Sim H H1) (b:Sim H1 H2):Sim H H2:=⟨fun x o n e=>b.nt x o n (a.nt x o n e),fun x ps e=>by
 obtain ⟨qs,e⟩:=a.tb x ps e;exact b.tb x qs e⟩
noncomputable def Fz (H:Hp) (a:aw) (o:Obj):Prop:=H a = some (.frz o (.ext fun h=>h.get? a = some o))
structure Lam where
 qual:Str
 params:pL
 body:aI
 scope:en
 ps:List Str
 caps:List Str
class Tbs where
 ts:List (aw × Str)
 lams:List (Nat × Lam)
 gds:List (Str × List (Str × Int))
variable [Tbs]
noncomputable def Mo:HO->Prop
 | .lst _=>True
 | .ext _=>True
 | .dK _=>True
 | _=>False
noncomputable def flV:D->V
 | .bl b=>.bl b
 | .int i=>.int i
 | .str x=>.str x
 | _=>.non
noncomputable def lq (H:Hp):List aw->List D->Prop
 | [],ds=>ds = []
 | c::r,ds=>∃ d ds' o u,ds = d::ds'/\flat d = true/\Fz H c o/\o.data = .cell (some u)/\RelV (flV d) u/\lq H r ds'
noncomputable def FnV (H:Hp) (k:Nat) (cs:List D) (a:aw):Prop:=∃ (L:Lam) (pm ctv:af) (c':aw) (oc:Obj) (vs:Array af) (tk:Tok) (cells:List aw),
 Tbs.lams.lookup k = some L/\Fz H a (PySem.W.kla_obj "<lambda>" L.qual L.params L.body L.scope (L.caps.zip cells) pm c' ctv)/\Fz H c' oc/\oc.data = .fields vs/\vs[1]? = some (.str L.qual tk)/\cells.Nodup/\cells.length = L.caps.length/\lq H cells cs
theorem lq.keep {H H':Hp} (k:∀ a o,Fz H a o->Fz H' a o):∀ {cells:List aw} {cs:List D},lq H cells cs->lq H' cells cs
 | [],_,h=>h
 | c::r,cs,h=>by
   obtain ⟨d,ds',o,u,e,h1,h2,h3,h4,h5⟩:=h;exact ⟨d,ds',o,u,e,h1,k _ _ h2,h3,h4,lq.keep k h5⟩
theorem FnV.keep {H H':Hp} (k:∀ a o,Fz H a o->Fz H' a o) {n:Nat} {cs:List D} {a:aw} (h:FnV H n cs a):FnV H' n cs a:=by
 obtain ⟨L,pm,ctv,c',oc,vs,tk,cells,h1,h2,h3,h4,h5,h6,h7,h8⟩:=h;exact ⟨L,pm,ctv,c',oc,vs,tk,cells,h1,k _ _ h2,k _ _ h3,h4,h5,h6,h7,h8.keep k⟩
noncomputable def ik (H:Hp):Prop:=∀ t∈Tbs.ts,∃ ps,H t.1 = some (.tbl ps)/\TriplesOk ps.toList/\∀ pos cv,codeAmong pos ps.toList = some cv->∃ c o vs tk,cv = .ref c/\Fz H c o/\o.data = .fields vs/\vs[1]? = some (.str t.2 tk)
theorem ik.keep {H H':Hp} (h:ik H) (k:∀ b o,¬ Mo o->H b = some o->H' b = some o):ik H':=fun t ht=>by
 obtain ⟨ps,h1,h2,h3⟩:=h t ht;refine ⟨ps,k _ _ (fun z=>z) h1,h2,fun pos cv e=>?_⟩;obtain ⟨c,o,vs,tk,e1,e2,e3⟩:=h3 pos cv e;exact ⟨c,o,vs,tk,e1,k _ _ (fun z=>z) e2,e3⟩
noncomputable def FD (F:aw->Prop) (H:Hp):Prop:=∀ b,F b->∃ o,H b = some o/\(Mo o\/(∃ ps,o = .tbl ps)/\∃ t∈Tbs.ts,t.1 = b)
theorem FD.not (fd:FD F H) (e:H a = some o) (n:¬ Mo o) (t:NT o):¬ F a:=fun z=>by
 obtain ⟨u,e2,h⟩:=fd a z;rw [e] at e2;cases e2;rcases h with h | ⟨⟨ps,rfl⟩,_⟩
 . exact n h
 . exact t
theorem FD.none (fd:FD F H) (e:H a = Option.none):¬ F a:=fun z=>by
 obtain ⟨u,e2,_⟩:=fd a z;rw [e] at e2;cases e2
noncomputable def TF (F:aw->Prop):Prop:=∀ t∈Tbs.ts,F t.1
structure Gh where
 h:Hp
 R:aw->Prop
noncomputable def Gh.free (G:Gh) (a:aw):Prop:=G.h a = none/\¬ G.R a
noncomputable def g0:Gh:=⟨fun _=>none,fun _=>False⟩
structure Step (G:Gh) (F:aw->Prop) (H:Hp) (F':aw->Prop) (H':Hp):Prop where
 keep:∀ b o,NT o->H b = some o->¬ F b->H' b = some o
 grow:∀ b,F' b->F b\/H b = none
 res:∀ b o,G.R b->F b->H b = some o->F' b/\H' b = some o
 tb:∀ b ps,H b = some (.tbl ps)->∃ qs,H' b = some (.tbl qs)
theorem Step.refl:Step G F H F H:=⟨fun _ _ _ h _=>h,fun _ h=>.inl h,fun _ _ _ h e=>⟨h,e⟩,fun _ ps e=>⟨ps,e⟩⟩
theorem Step.trans (a:Step G F H F1 H1) (b:Step G F1 H1 F2 H2):Step G F H F2 H2 where
 keep:=fun x o t h n=>b.keep x o t (a.keep x o t h n) fun z=>by
  rcases a.grow x z with q | q
  . exact n q
  . rw [h] at q;cases q
 grow:=fun x h=>by
  rcases b.grow x h with q | q
  . exact a.grow x q
  . by_cases f:F x
    . exact .inl f
    . right
      cases e:H x with
      | none=>rfl
      | some o =>
        by_cases t:NT o
        . rw [a.keep x o t e f] at q;cases q
        . cases o<;>first | (exact absurd trivial t) | skip
          obtain ⟨qs,z⟩:=a.tb x _ e;rw [z] at q;cases q
 res:=fun x o r h e=>by
  obtain ⟨h1,e1⟩:=a.res x o r h e;exact b.res x o r h1 e1
 tb:=fun x ps e=>by
  obtain ⟨qs,e⟩:=a.tb x ps e;exact b.tb x qs e
theorem Step.of_same (h:iH H H'):Step G F H F H':=⟨fun b o _ e _=>h b o e,fun _ h=>.inl h,fun b o _ f e=>⟨f,h b o e⟩,fun b ps e=>⟨ps,h b _ e⟩⟩
section
variable {K:PySem.W.Frag} {G:Gh} {H H':Hp} {F F':aw->Prop}
theorem zL (t:NT u) (k:∀ b o,NT o->H b = some o->¬ F b->H' b = some o) (n:¬ F a) (h:Rd H a u):Rd H' a u:=by
 rcases h with h | ⟨o,h⟩
 . exact .inl (k a _ t h n)
 . exact .inr ⟨o,k a _ trivial h n⟩
theorem vV (fd:FD F H) (k:∀ b o,NT o->H b = some o->¬ F b->H' b = some o) (h:SqT K H a xs):SqT K H' a xs:=by
 rcases h with h | h
 . refine .inl (zL trivial k (fun z=>?_) h);rcases h with h | ⟨o,h⟩
   . exact fd.not h (fun z=>z) trivial z
   . exact fd.not h (fun z=>z) trivial z
 . exact .inr h
theorem Ls.step {a:aw} {xs:List V} (s:Step G F H F' H') (h:Ls K H F a xs):Ls K H' F' a xs:=by
 rcases h with ⟨h1,h2⟩ | h
 . refine .inl ⟨zL trivial s.keep h2 h1,fun z=>?_⟩;rcases s.grow a z with q | q
   . exact h2 q
   . rcases h1 with h | ⟨o,h⟩
     . rw [h] at q;cases q
     . rw [h] at q;cases q
 . exact .inr h
theorem qi (fd:FD F H) (k:∀ b o,NT o->H b = some o->¬ F b->H' b = some o):∀ a o,Fz H a o->Fz H' a o:=fun a o h=>by
 exact k a _ trivial h (fd.not h (fun z=>z) trivial)
mutual
theorem Rel.step (fd:FD F H) (s:Step G F H F' H'):∀ (d:D) (v:V),Rel K H F d v->Rel K H' F' d v
 | .non,v,h=>by unfold Rel at h ⊢;exact h
 | .bl b,v,h=>by unfold Rel at h ⊢;exact h
 | .int i,v,h=>by unfold Rel at h ⊢;exact h
 | .str x,v,h=>by unfold Rel at h ⊢;exact h
 | .lst ds,v,h=>by
   unfold Rel at h ⊢;obtain ⟨a,xs,e,h1,h3⟩:=h
   exact ⟨a,xs,e,h1.step s,aK.step fd s ds xs h3⟩
 | .tup ds,v,h=>by
   unfold Rel at h ⊢;obtain ⟨a,xs,e,h1,h3⟩:=h
   exact ⟨a,xs,e,vV fd s.keep h1,aK.step fd s ds xs h3⟩
 | .fn _ _,v,h=>by unfold Rel at h;exact h.elim
theorem aK.step (fd:FD F H) (s:Step G F H F' H'):∀ (ds:List D) (xs:List V),aK K H F ds xs->aK K H' F' ds xs
 | [],xs,h=>by unfold aK at h ⊢;exact h
 | d::ds,xs,h=>by
   unfold aK at h ⊢;obtain ⟨y,ys,e,h1,h2⟩:=h;exact ⟨y,ys,e,Rel.step fd s d y h1,aK.step fd s ds ys h2⟩
end
theorem Rel.less (fd:FD F H) (hs:∀ b,F' b->F b) {d:D} {v:V} (h:Rel K H F d v):Rel K H F' d v :=
 Rel.step (G:=g0) fd ⟨fun _ _ _ h _=>h,fun b z=>.inl (hs b z),fun _ _ r _ _=>r.elim,fun _ ps e=>⟨ps,e⟩⟩ d v h
theorem aK.less (fd:FD F H) (hs:∀ b,F' b->F b) {ds:List D} {xs:List V} (h:aK K H F ds xs):aK K H F' ds xs :=
 aK.step (G:=g0) fd ⟨fun _ _ _ h _=>h,fun b z=>.inl (hs b z),fun _ _ r _ _=>r.elim,fun _ ps e=>⟨ps,e⟩⟩ ds xs h
mutual
theorem Rel.free (fd:FD F' H):∀ (d:D) (v:V),lf d = true->Rel K H F d v->Rel K H F' d v
 | .non,v,_,h=>by unfold Rel at h ⊢;exact h
 | .bl b,v,_,h=>by unfold Rel at h ⊢;exact h
 | .int i,v,_,h=>by unfold Rel at h ⊢;exact h
 | .str x,v,_,h=>by unfold Rel at h ⊢;exact h
 | .lst ds,v,l,h=>by unfold lf at l;cases l
 | .tup ds,v,l,h=>by
   unfold lf at l;unfold Rel at h ⊢;obtain ⟨a,xs,e,h1,h3⟩:=h
   exact ⟨a,xs,e,h1,aK.free fd ds xs l h3⟩
 | .fn _ _,v,l,h=>by unfold lf at l;cases l
theorem aK.free (fd:FD F' H):∀ (ds:List D) (xs:List V),lfL ds = true->aK K H F ds xs->aK K H F' ds xs
 | [],xs,_,h=>by unfold aK at h ⊢;exact h
 | d::ds,xs,l,h=>by
   unfold lfL at l;rw [aa] at l;unfold aK at h ⊢;obtain ⟨y,ys,e,h1,h2⟩:=h;exact ⟨y,ys,e,Rel.free fd d y l.1 h1,aK.free fd ds ys l.2 h2⟩
end
theorem aK.length:∀ {ds:List D} {xs:List V},aK K H F ds xs->xs.length = ds.length
 | [],xs,h=>by unfold aK at h;subst h;rfl
 | d::ds,xs,h=>by
   unfold aK at h;obtain ⟨y,ys,e,_,h2⟩:=h;subst e;rw [ay,ay,aK.length h2]
theorem aK.get:∀ {ds:List D} {xs:List V} {i:Nat} {d:D},aK K H F ds xs->ds[i]? = some d->∃ v,xs[i]? = some v/\Rel K H F d v
 | [],_,_,_,_,e=>by simp at e
 | d::ds,xs,i,d',h,e=>by
   unfold aK at h;obtain ⟨y,ys,q,h1,h2⟩:=h;subst q
   cases i with
   | zero=>simp at e;subst e;exact ⟨y,rfl,h1⟩
   | succ i =>
     obtain ⟨v,h3,h4⟩:=aK.get (i:=i) h2 (by simpa using e);exact ⟨v,by simpa using h3,h4⟩
theorem aK.append:∀ {ds es:List D} {xs ys:List V},aK K H F ds xs->aK K H F es ys->aK K H F (ds++es) (xs++ys)
 | [],es,xs,ys,h,h'=>by unfold aK at h;subst h;exact h'
 | d::ds,es,xs,ys,h,h'=>by
   unfold aK at h;obtain ⟨y,zs,q,h1,h2⟩:=h;subst q;show aK K H F (d::(ds++es)) (y::(zs++ys));unfold aK;exact ⟨y,zs++ys,rfl,h1,aK.append h2 h'⟩
theorem aK.one (h:Rel K H F d v):aK K H F [d] [v]:=by
 unfold aK;exact ⟨v,[],rfl,h,by unfold aK;rfl⟩
theorem aK.nil:aK K H F [] []:=by unfold aK;rfl
theorem aK.cons {d:D} {v:V} {ds:List D} {xs:List V} (h:Rel K H F d v) (t:aK K H F ds xs):aK K H F (d::ds) (v::xs):=by
 unfold aK;exact ⟨v,xs,rfl,h,t⟩
theorem aK.take:∀ {ds:List D} {xs:List V} (n:Nat),aK K H F ds xs->aK K H F (ds.take n) (xs.take n)
 | [],xs,n,h=>by unfold aK at h;subst h;simp;exact aK.nil
 | d::ds,xs,0,h=>by simp;exact aK.nil
 | d::ds,xs,n+1,h=>by
   unfold aK at h;obtain ⟨y,ys,q,h1,h2⟩:=h;subst q;rw [CS,CS];exact aK.cons h1 (aK.take n h2)
theorem aK.drop:∀ {ds:List D} {xs:List V} (n:Nat),aK K H F ds xs->aK K H F (ds.drop n) (xs.drop n)
 | [],xs,n,h=>by unfold aK at h;subst h;simp;exact aK.nil
 | d::ds,xs,0,h=>h
 | d::ds,xs,n+1,h=>by
   unfold aK at h;obtain ⟨y,ys,q,h1,h2⟩:=h;subst q;rw [CV,CV];exact aK.drop n h2
theorem aK.set {d:D} {v:V} (r:Rel K H F d v):∀ {ds:List D} {xs:List V} (n:Nat),aK K H F ds xs->aK K H F (ds.set n d) (xs.set n v)
 | [],xs,n,h=>by unfold aK at h;subst h;simp;exact aK.nil
 | e::ds,xs,0,h=>by
   unfold aK at h;obtain ⟨y,ys,q,h1,h2⟩:=h;subst q
   exact aK.cons r h2
 | e::ds,xs,n+1,h=>by
   unfold aK at h;obtain ⟨y,ys,q,h1,h2⟩:=h;subst q;exact aK.cons h1 (aK.set r n h2)
theorem aK.cut (lo hi:Option Int) (h:aK K H F ds xs):aK K H F (cutD ds lo hi) (sh xs lo hi):=by
 unfold cutD sh;rw [h.length];exact (h.drop _).take _
end
noncomputable def dE (K:PySem.W.Frag) (H:Hp) (F:aw->Prop) (d:D) (v:V):Prop:=Rel K H F d v\/∃ a xs ds,d = .lst ds/\v = .ref a/\H a = some (.lst xs)/\aK K H F ds xs
noncomputable def RelM (m:Bool) (K:PySem.W.Frag) (H:Hp) (F:aw->Prop) (d:D) (v:V):Prop:=if m = true then dE K H F d v else Rel K H F d v
theorem RelM.b {m:Bool} {K:PySem.W.Frag} {H:Hp} {F:aw->Prop} {d:D} {v:V} (h:RelM m K H F d v):dE K H F d v:=by
 unfold RelM at h;split at h
 . exact h
 . exact .inl h
theorem dE.same {K:PySem.W.Frag} {G:Gh} {H H':Hp} {F F':aw->Prop} {d:D} {v:V} (fd:FD F H) (s:Step G F H F' H') (k:Sim H H') (h:dE K H F d v):dE K H' F' d v:=by
 rcases h with h | ⟨a,xs,ds,e1,e2,h1,h2⟩
 . exact .inl (Rel.step fd s d v h)
 . exact .inr ⟨a,xs,ds,e1,e2,k.nt _ _ trivial h1,aK.step fd s ds xs h2⟩
theorem RelM.step {m:Bool} {K:PySem.W.Frag} {G:Gh} {H H':Hp} {F F':aw->Prop} {d:D} {v:V} (fd:FD F H) (s:Step G F H F' H') (k:m = true->Sim H H') (h:RelM m K H F d v):RelM m K H' F' d v:=by
 cases m with
 | true=>exact dE.same fd s (k rfl) h
 | false=>exact Rel.step fd s d v h
noncomputable def fF (K:PySem.W.Frag) (G:Gh) (F:aw->Prop) (H:Hp) (o:Option (Option V)):Sl->Prop
 | .no=>True
 | .val d=>∃ v,o = some (some v)/\Rel K H F d v
 | .own ds=>∃ a xs,o = some (some (.ref a))/\F a/\G.free a/\H a = some (.lst xs)/\aK K H F ds xs
 | .fnc k cs=>∃ a,o = some (some (.ref a))/\FnV H k cs a
noncomputable def ow:Sl->Bool
 | .own _=>true
 | _=>false
structure Ok (K:PySem.W.Frag) (G:Gh) (F:aw->Prop) (σ:St) (H:Hp) (δ:Loc):Prop where
 same:Sim G.h H
 fd:FD F H
 rf:∀ b,G.R b->F b
 rl:∀ b,G.R b->∃ o,H b = some o/\Mo o
 tf:TF F
 tabs:ik H
 len:δ.length = σ.length
 sl:∀ (i:Nat) (s:Sl),δ[i]? = some s->fF K G F H σ[i]? s
 apart:∀ (i j:Nat) (s t:Sl) (a:aw),δ[i]? = some s->δ[j]? = some t->ow s = true->ow t = true->σ[i]? = some (some (.ref a))->σ[j]? = some (some (.ref a))->i = j
section
variable {K:PySem.W.Frag} {G:Gh} {H H':Hp} {F F':aw->Prop} {σ:St} {δ:Loc}
theorem fF.same {o:Option (Option V)} (fd:FD F H) (k:iH H H'):∀ {s:Sl},fF K G F H o s->fF K G F H' o s
 | .no,_=>trivial
 | .val d,h=>by
   obtain ⟨v,e,h⟩:=h
   exact ⟨v,e,Rel.step (G:=G) fd (Step.of_same k) d v h⟩
 | .own ds,h=>by
   obtain ⟨a,xs,e,h1,h2,h3,h4⟩:=h
   exact ⟨a,xs,e,h1,h2,k _ _ h3,aK.step (G:=G) fd (Step.of_same k) ds xs h4⟩
 | .fnc n cs,h=>by
   obtain ⟨a,e,h⟩:=h;exact ⟨a,e,h.keep fun a o z=>k _ _ z⟩
theorem FD.same (fd:FD F H) (k:iH H H'):FD F H':=fun b h=>by
 obtain ⟨o,e,q⟩:=fd b h;exact ⟨o,k _ _ e,q⟩
theorem zI {P:aw->Prop} (h:∀ b,P b->∃ o,H b = some o/\Mo o) (k:iH H H'):∀ b,P b->∃ o,H' b = some o/\Mo o:=fun b z=>by
 obtain ⟨o,e,q⟩:=h b z;exact ⟨o,k _ _ e,q⟩
theorem Ok.same' (h:Ok K G F σ H δ) (k:iH H H'):Ok K G F σ H' δ :=
 ⟨h.same.trans (.of k),h.fd.same k,h.rf,zI h.rl k,h.tf,h.tabs.keep fun b o _ e=>k b o e,h.len,fun i s e=>(h.sl i s e).same h.fd k,h.apart⟩
theorem cg (h:H p = none) (o:HO):iH H (upd H p o):=fun b u q=>by rw [bA (gN q h)];exact q
theorem fF.less {o:Option (Option V)} (fd:FD F H) (hs:∀ b,F' b->F b):∀ {s:Sl},(∀ a,ow s = true->o = some (some (.ref a))->F' a)->fF K G F H o s->fF K G F' H o s
 | .no,_,_=>trivial
 | .val d,_,h=>by
   obtain ⟨v,e,h⟩:=h
   exact ⟨v,e,Rel.less fd hs h⟩
 | .own ds,q,h=>by
   obtain ⟨a,xs,e,h1,h2,h3,h4⟩:=h
   exact ⟨a,xs,e,q a rfl e,h2,h3,aK.less fd hs h4⟩
 | .fnc n cs,_,h=>h
inductive iq (K:PySem.W.Frag) (H:Hp) (F:aw->Prop):D->HO->Prop
 | lst {ds:List D} {xs:List V}:aK K H F ds xs->iq K H F (.lst ds) (.lst xs)
noncomputable def owS:D->Sl
 | .lst ds=>.own ds
 | _=>.no
theorem IW {d d':D} (h:ow (owS d) = true) (e:owS d = owS d'):d = d':=by
 cases d<;>first | (cases h;done) | skip
 . cases d'<;>first | (cases e;rfl) | cases e
theorem iq.mo {d:D} {o:HO} (h:iq K H F d o):Mo o/\ow (owS d) = true:=by
 cases h<;>exact ⟨trivial,rfl⟩
theorem iq.step (fd:FD F H) (s:Step G F H F' H') {d:D} {o:HO} (h:iq K H F d o):iq K H' F' d o:=by
 cases h with
 | lst h=>exact .lst (aK.step fd s _ _ h)
theorem iq.sl {o:Option (Option V)} {a:aw} {d:D} {u:HO} (e:o = some (some (.ref a))) (hF:F a) (hg:G.free a) (h:H a = some u) (r:iq K H F d u):fF K G F H o (owS d):=by
 cases r with
 | lst r=>exact ⟨a,_,e,hF,hg,h,r⟩
theorem fF.ow {o:Option (Option V)} {s:Sl} (h:fF K G F H o s) (q:ow s = true):∃ a u d,o = some (some (.ref a))/\F a/\G.free a/\H a = some u/\iq K H F d u/\s = owS d:=by
 cases s with
 | own ds =>
   obtain ⟨a,xs,e,h1,h2,h3,h4⟩:=h
   exact ⟨a,_,.lst ds,e,h1,h2,h3,.lst h4,rfl⟩
 | _=>cases q
theorem fF.stay0 (fd:FD F H) (st:Step G' F H F' H') (k:∀ a u,o = some (some (.ref a))->F a->G.free a->H a = some u->F' a/\H' a = some u):∀ {s:Sl},fF K G F H o s->fF K G F' H' o s
 | .no,_=>trivial
 | .fnc n cs,h=>by
   obtain ⟨v,e,z⟩:=h
   exact ⟨v,e,z.keep (qi fd st.keep)⟩
 | .val d,h=>by
   obtain ⟨v,e,z⟩:=h
   exact ⟨v,e,Rel.step fd st d v z⟩
 | .own ds,h=>by
   obtain ⟨a,u,d,e,h1,h2,h3,h4,e5⟩:=fF.ow h rfl;rw [e5];obtain ⟨k1,k2⟩:=k a u e h1 h2 h3;exact iq.sl e k1 h2 k2 (h4.step fd st)
theorem fF.stay {o:Option (Option V)} (fd:FD F H) (st:Step G F H F' H') (k:∀ a u,o = some (some (.ref a))->F a->G.free a->H a = some u->F' a/\H' a = some u) {s:Sl} (h:fF K G F H o s):fF K G F' H' o s:=fF.stay0 fd st k h
theorem fF.free {G':Gh} {o:Option (Option V)} (k:∀ a,F a->G.free a->G'.free a):∀ {s:Sl},fF K G F H o s->fF K G' F H o s
 | .no,_=>trivial
 | .fnc n cs,h=>h
 | .val d,h=>h
 | .own ds,h=>by
   obtain ⟨a,xs,e,h1,h2,h3⟩:=h;exact ⟨a,xs,e,h1,k a h1 h2,h3⟩
theorem iq.rel (fd:FD F H) (hs:∀ b,F' b->F b) {a:aw} (n:¬ F' a) {d:D} {u:HO} (h:H a = some u) (r:iq K H F d u):Rel K H F' d (.ref a):=by
 cases r with
 | lst r =>
   unfold Rel;exact ⟨a,_,rfl,.inl ⟨.inl h,n⟩,aK.less fd hs r⟩
theorem fY {α:Type} {l:List α} {i j:Nat} {x y:α} (hi:i < l.length) (q:(l.set i x)[j]? = some y):(j = i/\y = x)\/(j≠i/\l[j]? = some y):=by
 by_cases hj:j = i
 . subst hj;rw [cQ hi] at q;cases q;exact .inl ⟨rfl,rfl⟩
 . rw [bL (Ne.symm hj)] at q;exact .inr ⟨hj,q⟩
theorem Ok.demote (h:Ok K G F σ H δ) {i:Nat} {d:D} {a:aw} (e:δ[i]? = some (owS d)) (eo:ow (owS d) = true) (ea:σ[i]? = some (some (.ref a))) :
 Ok K G (fun b=>F b/\b≠a) σ H (δ.set i (.val d))/\Rel K H (fun b=>F b/\b≠a) d (.ref a):=by
 have hi:i < δ.length:=(aF.mp e).1;obtain ⟨a',u,d',e1,h1,h2,h3,h4,ed⟩:=fF.ow (h.sl i _ e) eo;rw [ea] at e1;cases e1;have ed:=IW eo ed;subst ed;have hs:∀ b,(F b/\b≠a)->F b:=fun b z=>z.1;have r:Rel K H (fun b=>F b/\b≠a) d (.ref a):=iq.rel h.fd hs (fun z=>z.2 rfl) h3 h4
 have tf':TF fun b=>F b/\b≠a:=fun t ht=>⟨h.tf t ht,fun w=>by
  obtain ⟨ps,e2,_⟩:=h.tabs t ht;rw [w,h3] at e2;cases e2;exact h4.mo.1⟩
 refine ⟨⟨h.same,fun b z=>h.fd b z.1,fun b z=>⟨h.rf b z,fun w=>h2.2 (by rw [<- w];exact z)⟩,h.rl,tf',h.tabs,by rw [cw];exact h.len,fun j s q=>?_,fun j k s t b q1 q2 o1 o2 p1 p2=>?_⟩,r⟩
 . rcases fY hi q with ⟨rfl,rfl⟩ | ⟨hj,q⟩
   . exact ⟨.ref a,ea,r⟩
   . refine (h.sl j s q).less h.fd hs fun b z zb=>?_;obtain ⟨b',u',d',e1,f1,_⟩:=fF.ow (h.sl j _ q) z;rw [zb] at e1;cases e1;exact ⟨f1,fun w=>hj (h.apart j i _ _ a q e z eo (by rw [zb,w]) ea)⟩
 . rcases fY hi q1 with ⟨rfl,rfl⟩ | ⟨hj,q1⟩
   . cases o1
   . rcases fY hi q2 with ⟨rfl,rfl⟩ | ⟨hk,q2⟩
     . cases o2
     . exact h.apart j k s t b q1 q2 o1 o2 p1 p2
theorem Ok.set (h:Ok K G F σ H δ) {i:Nat} {d:D} {v:V} (hi:i < δ.length) (r:Rel K H F d v):Ok K G F (σ.set i (some v)) H (δ.set i (.val d)):=by
 have hi':i < σ.length:=by rw [<- h.len];exact hi
 refine ⟨h.same,h.fd,h.rf,h.rl,h.tf,h.tabs,by rw [cw,cw];exact h.len,fun j s q=>?_,fun j k s t b q1 q2 o1 o2 p1 p2=>?_⟩
 . rcases fY hi q with ⟨rfl,rfl⟩ | ⟨hj,q⟩
   . exact ⟨v,by rw [cQ hi'],r⟩
   . rw [bL (Ne.symm hj)];exact h.sl j s q
 . rcases fY hi q1 with ⟨rfl,rfl⟩ | ⟨hj,q1⟩
   . cases o1
   . rcases fY hi q2 with ⟨rfl,rfl⟩ | ⟨hk,q2⟩
     . cases o2
     . rw [bL (Ne.symm hj)] at p1;rw [bL (Ne.symm hk)] at p2;exact h.apart j k s t b q1 q2 o1 o2 p1 p2
theorem Ok.ownO (h:Ok K G F σ H δ) {i:Nat} {d:D} {u:HO} {p:aw} (hi:i < δ.length) (hp:F p) (hg:G.free p) (e:H p = some u) (r:iq K H F d u)
 (hn:∀ (j:Nat) s,δ[j]? = some s->ow s = true->σ[j]?≠some (some (.ref p))):Ok K G F (σ.set i (some (.ref p))) H (δ.set i (owS d)):=by
 have hi':i < σ.length:=by rw [<- h.len];exact hi
 refine ⟨h.same,h.fd,h.rf,h.rl,h.tf,h.tabs,by rw [cw,cw];exact h.len,fun j s q=>?_,fun j k s t b q1 q2 o1 o2 p1 p2=>?_⟩
 . rcases fY hi q with ⟨rfl,rfl⟩ | ⟨hj,q⟩
   . exact iq.sl (by rw [cQ hi']) hp hg e r
   . rw [bL (Ne.symm hj)];exact h.sl j s q
 . rcases fY hi q1 with ⟨rfl,rfl⟩ | ⟨hj,q3⟩
   . rcases fY hi q2 with ⟨rfl,rfl⟩ | ⟨hk,q2⟩
     . rfl
     . rw [cQ hi'] at p1;rw [bL (Ne.symm hk)] at p2;cases p1;exact (hn k t q2 o2 p2).elim
   . rw [bL (Ne.symm hj)] at p1;rcases fY hi q2 with ⟨rfl,rfl⟩ | ⟨hk,q2⟩
     . rw [cQ hi'] at p2;cases p2;exact (hn j s q3 o1 p1).elim
     . rw [bL (Ne.symm hk)] at p2;exact h.apart j k s t b q3 q2 o1 o2 p1 p2
theorem Ok.own (h:Ok K G F σ H δ) {i:Nat} {ds:List D} {xs:List V} {p:aw} (hi:i < δ.length) (hp:F p) (hg:G.free p) (e:H p = some (.lst xs)) (r:aK K H F ds xs)
 (hn:∀ (j:Nat) s,δ[j]? = some s->ow s = true->σ[j]?≠some (some (.ref p))):Ok K G F (σ.set i (some (.ref p))) H (δ.set i (.own ds)):=h.ownO (d:=.lst ds) hi hp hg e (.lst r) hn
theorem Ok.writeO (h:Ok K G F σ H δ) {i:Nat} {d d':D} {a:aw} {u:HO} (e:δ[i]? = some (owS d)) (eo:ow (owS d) = true) (ea:σ[i]? = some (some (.ref a))) (r:iq K H F d' u) :
 Ok K G F σ (upd H a u) (δ.set i (owS d'))/\Step G F H F (upd H a u):=by
 have hi:i < δ.length:=(aF.mp e).1;have e':=e;obtain ⟨a',x,d0,e1,h1,h2,h3,h4,_⟩:=fF.ow (h.sl i _ e) eo;rw [ea] at e1;cases e1
 have nt:NT x:=by
  have m:=h4.mo.1;cases x<;>first | trivial | exact m
 have st:Step G F H F (upd H a u):=⟨fun b o _ q n=>by
  rw [bA (fun z:b = a=>n (by rw [z];exact h1))];exact q,fun b z=>.inl z,fun b o r z e=>⟨z,by rw [bA (fun w:b = a=>h2.2 (by rw [<- w];exact r))];exact e⟩,fun b ps e=>⟨ps,by rw [bA (fun w:b = a=>by rw [w,h3] at e;cases e;exact nt)];exact e⟩⟩
 have tb':ik (upd H a u):=h.tabs.keep fun b o n e=>by rw [bA (fun w:b = a=>by rw [w,h3] at e;cases e;exact n h4.mo.1)];exact e
 refine ⟨⟨⟨fun b o t q=>?_,fun b ps q=>?_⟩,fun b z=>?_,h.rf,fun b z=>?_,h.tf,tb',by rw [cw];exact h.len,fun j s q=>?_,fun j k s t b q1 q2 o1 o2 p1 p2=>?_⟩,st⟩
 . have:=h.same.nt b o t q;rw [bA (fun z:b = a=>by rw [z,h2.1] at q;cases q)];exact this
 . rw [bA (fun z:b = a=>by rw [z,h2.1] at q;cases q)];exact h.same.tb b ps q
 . by_cases hb:b = a
   . subst hb;exact ⟨u,bN,.inl r.mo.1⟩
   . rw [bA hb];exact h.fd b z
 . by_cases hb:b = a
   . subst hb;exact ⟨u,bN,r.mo.1⟩
   . rw [bA hb];exact h.rl b z
 . rcases fY hi q with ⟨rfl,rfl⟩ | ⟨hj,q⟩
   . exact iq.sl ea h1 h2 bN (r.step h.fd st)
   . cases eq:ow s with
     | true =>
       refine fF.stay h.fd st (fun b v e f1 f2 f3=>⟨f1,?_⟩) (h.sl j s q);rw [bA (fun w:b = a=>hj (h.apart j i _ _ a q e' eq eo (by rw [e,w]) ea))]
       exact f3
     | false =>
       have z:=h.sl j s q
       cases s with
       | no=>trivial
       | fnc n cs =>
         obtain ⟨v,e,z⟩:=z
         exact ⟨v,e,z.keep (qi h.fd st.keep)⟩
       | val d =>
         obtain ⟨v,e,z⟩:=z
         exact ⟨v,e,Rel.step h.fd st d v z⟩
       | own _=>cases eq
 . have un:∀ (m:Nat) (g:Sl),(δ.set i (owS d'))[m]? = some g->ow g = true->∃ g',δ[m]? = some g'/\ow g' = true:=fun m g q o=>by
    rcases fY hi q with ⟨rfl,rfl⟩ | ⟨hj,q⟩
    . exact ⟨_,e,eo⟩
    . exact ⟨g,q,o⟩
   obtain ⟨g1,q1,o1⟩:=un j _ q1 o1;obtain ⟨g2,q2,o2⟩:=un k _ q2 o2;exact h.apart j k g1 g2 b q1 q2 o1 o2 p1 p2
theorem Ok.write (h:Ok K G F σ H δ) (e:δ[i]? = some (.own ds)) (ea:σ[i]? = some (some (.ref a))) (r:aK K H F es ys) :
 Ok K G F σ (upd H a (.lst ys)) (δ.set i (.own es))/\Step G F H F (upd H a (.lst ys)):=h.writeO (d:=.lst ds) (d':=.lst es) e rfl ea (.lst r)
theorem Mo.nt {o:HO} (m:Mo o):NT o:=by
 cases o<;>first | trivial | exact m
theorem Step.of_sim (rl:∀ b,G.R b->∃ o,H b = some o/\Mo o) (k:Sim H H'):Step G F H F H':=⟨fun b o t e _=>k.nt b o t e,fun b z=>.inl z,fun b o r f e=>⟨f,by
 obtain ⟨u,e2,m⟩:=rl b r;rw [e] at e2;cases e2;exact k.nt b _ m.nt e⟩,k.tb⟩
theorem Ok.call (h:Ok K G F σ H δ) (k:Sim H H') (t:ik H'):Ok K G F σ H' δ/\Step G F H F H':=by
 have st:Step G F H F H':=Step.of_sim h.rl k;refine ⟨⟨h.same.trans k,fun b z=>?_,h.rf,fun b z=>?_,h.tf,t,h.len,fun i s e=>?_,h.apart⟩,st⟩
 . obtain ⟨o,e,m⟩:=h.fd b z;rcases m with m | ⟨⟨ps,rfl⟩,t⟩
   . exact ⟨o,k.nt _ _ m.nt e,.inl m⟩
   . obtain ⟨qs,e⟩:=k.tb b ps e;exact ⟨_,e,.inr ⟨⟨qs,rfl⟩,t⟩⟩
 . obtain ⟨o,e,m⟩:=h.rl b z;exact ⟨o,k.nt _ _ m.nt e,m⟩
 . cases eq:ow s with
   | true =>
     obtain ⟨_,_,_,_,_,_,h3,h4,_⟩:=fF.ow (h.sl i s e) eq;refine fF.stay h.fd st (fun b v e2 f1 f2 f3=>⟨f1,?_⟩) (h.sl i s e);obtain ⟨o,e3,m⟩:=h.fd b f1;rw [f3] at e3;cases e3;rcases m with m | ⟨⟨ps,rfl⟩,t,ht,eb⟩
     . exact k.nt _ _ m.nt f3
     . exfalso;obtain ⟨c,w,d,e5,_,_,e7,r7,_⟩:=fF.ow (h.sl i s e) eq;rw [e2] at e5;cases e5;rw [f3] at e7;cases e7
       exact r7.mo.1
   | false =>
     have q:=h.sl i s e
     cases s with
     | no=>trivial
     | fnc n cs =>
       obtain ⟨v,e,r⟩:=q
       exact ⟨v,e,r.keep (qi h.fd st.keep)⟩
     | val d =>
       obtain ⟨v,e,r⟩:=q
       exact ⟨v,e,Rel.step h.fd st d v r⟩
     | own _=>cases eq
end
end PP
end
section
namespace PP
open PySem L2 PyProof.Rows PySem.SeqAt
variable [Tbs]
theorem Cp (xs:List (Array Nat)):∀ a:Array Nat,(xs.foldl (·++·) a).toList = a.toList++(xs.map (·.toList)).flatten:=by
 induction xs with
 | nil=>intro a;simp
 | cons x r ih=>intro a;rw [dN,ih];simp
theorem Ji (x:Str) (n:Int) (h:0<=n):Txt.mul x n = yB x n.toNat:=by
 unfold Txt.mul yB;by_cases h1:n < 1
 . have:n = 0:=by lia
   subst this;rfl
 . rw [if_neg h1];by_cases h2:(n == 1 || x.length == 0) = true
   . rw [if_pos h2];rw [cD] at h2;rcases h2 with h2 | h2
     . have:n = 1:=by simpa using h2
       subst this;simp
     . have e:x.cps = #[]:=by
        have:x.cps.size = 0:=by simpa [Str.length] using h2
        exact Array.eq_empty_of_size_eq_zero this
       cases x;simp at e;subst e;simp
   . rw [if_neg h2];congr 1;apply Array.ext';rw [Cp];simp
theorem IX:OpR X (binaryOp .Mult) (fun x y H Q=>∃ i n,x = .str i/\y = .int n/\(0<=n/\n<=1000/\i.length<=1000)/\Q (.str (yB i n.toNat)) H):=by
 intro pins s σ H x y v u Q I rx ry h;obtain ⟨i,n,rfl,rfl,⟨h1,h2,h3⟩,q⟩:=h;obtain ⟨t,rfl⟩:=rx;obtain ⟨t',rfl⟩:=ry;refine SB.mul ⟨?_,fun a _ b=>?_,fun a _=>?_⟩ fun t' k=>?_
 . simp;lia
 . have:(1000:Int)<=(2 ^ 63 - 1) / n:=by rw [Int.le_ediv_iff_mul_le (by lia)];lia
   lia
 . have:i.length * n.toNat<=1000 * 1000:=Nat.mul_le_mul h3 (by lia);have z:=bR;unfold Builtin.Str.tooLong;simp
   lia
 . rw [Ji i n h1];exact ⟨.str _,H,I.tok _,⟨_,rfl⟩,q⟩
mutual
noncomputable def RdV (h:bK):D->af->Prop
 | .non,u=>u = .none
 | .bl b,u=>u = .bool b
 | .int i,u=>∃ t,u = .int i t
 | .str x,u=>∃ t,u = .str x t
 | .lst ds,u=>∃ a its,u = .ref a/\h.IsList a its/\RdL h ds its.toList
 | .tup ds,u=>∃ a its,u = .ref a/\h.IsTuple a its/\RdL h ds its.toList
 | .fn _ _,_=>False
noncomputable def RdL (h:bK):List D->List af->Prop
 | [],us=>us = []
 | d::ds,us=>∃ w ws,us = w::ws/\RdV h d w/\RdL h ds ws
end
mutual
theorem yC (I:Inv X pins σ H s):∀ (d:D) (v:V) (u:af),Rel X.K H F d v->RelV v u->dep d < 100000->RdV s.heap d u
 | .non,v,u,h,r,_=>by unfold Rel at h;subst h;unfold RdV;exact r
 | .bl b,v,u,h,r,_=>by unfold Rel at h;subst h;unfold RdV;exact r
 | .int b,v,u,h,r,_=>by unfold Rel at h;subst h;unfold RdV;exact r
 | .str b,v,u,h,r,_=>by unfold Rel at h;subst h;unfold RdV;exact r
 | .lst ds,v,u,h,r,hd=>by
   unfold dep at hd;unfold Rel at h;obtain ⟨a,xs,e,h1,h3⟩:=h;subst e;cases (show u = cT a from r);obtain ⟨its,rv,p,hz⟩:=I.list h1.sq;unfold RdV
   exact ⟨a,its.toArray,rfl,p.isList,ou I ds xs its h3 rv (by lia)⟩
 | .tup ds,v,u,h,r,hd=>by
   unfold dep at hd;unfold Rel at h;obtain ⟨a,xs,e,h1,h3⟩:=h;subst e;cases (show u = cT a from r);obtain ⟨its,rv,p,hz⟩:=I.tuple h1;unfold RdV
   exact ⟨a,its.toArray,rfl,p,ou I ds xs its h3 rv (by lia)⟩
 | .fn _ _,v,u,h,r,_=>by unfold Rel at h;exact h.elim
theorem ou (I:Inv X pins σ H s):∀ (ds:List D) (xs:List V) (us:List af),aK X.K H F ds xs->Vals xs us->bZ ds < 100000->RdL s.heap ds us
 | [],xs,us,h,r,_=>by unfold aK at h;subst h;cases r;unfold RdL;rfl
 | d::ds,xs,us,h,r,hd=>by
   unfold bZ at hd;unfold aK at h;obtain ⟨y,ys,e,h1,h2⟩:=h;subst e
   cases r with
   | cons r1 r2 =>
     unfold RdL;exact ⟨_,_,rfl,yC I d y _ h1 r1 (by lia),ou I ds ys _ h2 r2 (by lia)⟩
end
theorem fK (I:Inv X pins σ H s) (h:dE X.K H F d v) (r:RelV v u) (hd:dep d < 100000):RdV s.heap d u:=by
 rcases h with h | ⟨a,xs,ds,rfl,rfl,h1,h2⟩
 . exact yC I d v u h r hd
 . cases (show u = cT a from r);obtain ⟨its,rv,p,hz⟩:=I.list (.inl (.inl h1));unfold RdV;unfold dep at hd;exact ⟨a,its.toArray,rfl,p.isList,ou I ds xs its h2 rv (by lia)⟩
mutual
theorem RdV.inj:∀ (d e:D) (u:af),RdV h d u->RdV h e u->d = e
 | .non,e,u,a,b=>by
   unfold RdV at a;subst a
   cases e<;>unfold RdV at b<;>first | rfl | (obtain ⟨_,_,b,_⟩:=b;cases b;done) | (obtain ⟨_,b⟩:=b;cases b;done) | (cases b;done)
 | .bl x,e,u,a,b=>by
   unfold RdV at a;subst a
   cases e<;>unfold RdV at b<;>first | (cases b;rfl) | (obtain ⟨_,_,b,_⟩:=b;cases b;done) | (obtain ⟨_,b⟩:=b;cases b;done) | (cases b;done)
 | .int x,e,u,a,b=>by
   unfold RdV at a;obtain ⟨t,a⟩:=a;subst a
   cases e<;>unfold RdV at b<;>first | (obtain ⟨_,_,b,_⟩:=b;cases b;done) | (obtain ⟨_,b⟩:=b;cases b;rfl) | (obtain ⟨_,b⟩:=b;cases b;done) | (cases b;done)
 | .str x,e,u,a,b=>by
   unfold RdV at a;obtain ⟨t,a⟩:=a;subst a
   cases e<;>unfold RdV at b<;>first | (obtain ⟨_,_,b,_⟩:=b;cases b;done) | (obtain ⟨_,b⟩:=b;cases b;rfl) | (obtain ⟨_,b⟩:=b;cases b;done) | (cases b;done)
 | .lst ds,e,u,a,b=>by
   unfold RdV at a;obtain ⟨l,its,a,h1,h2⟩:=a;subst a
   cases e with
   | lst es =>
     unfold RdV at b;obtain ⟨l',its',b,k1,k2⟩:=b;cases b;obtain ⟨o,g1,g2,n,g3⟩:=h1;obtain ⟨o',f1,f2,n',f3⟩:=k1;rw [g1] at f1;cases f1;rw [g3] at f3;cases f3
     rw [RdL.inj ds es _ h2 k2]
   | tup es =>
     unfold RdV at b;obtain ⟨l',its',b,k1,k2⟩:=b;cases b;obtain ⟨o,g1,g2,_⟩:=h1;obtain ⟨o',f1,f2,_⟩:=k1;rw [g1] at f1;cases f1
     rw [g2] at f2;injection f2 with f2;exact absurd f2 (by decide)
   | _=>unfold RdV at b;first | (obtain ⟨_,b⟩:=b;cases b) | cases b
 | .tup ds,e,u,a,b=>by
   unfold RdV at a;obtain ⟨l,its,a,h1,h2⟩:=a;subst a
   cases e with
   | tup es =>
     unfold RdV at b;obtain ⟨l',its',b,k1,k2⟩:=b;cases b;obtain ⟨o,g1,g2,n,g3⟩:=h1;obtain ⟨o',f1,f2,n',f3⟩:=k1;rw [g1] at f1;cases f1;rw [g3] at f3;cases f3
     rw [RdL.inj ds es _ h2 k2]
   | lst es =>
     unfold RdV at b;obtain ⟨l',its',b,k1,k2⟩:=b;cases b;obtain ⟨o,g1,g2,_⟩:=h1;obtain ⟨o',f1,f2,_⟩:=k1;rw [g1] at f1;cases f1
     rw [g2] at f2;injection f2 with f2;exact absurd f2 (by decide)
   | _=>unfold RdV at b;first | (obtain ⟨_,b⟩:=b;cases b) | cases b
 | .fn _ _,e,u,a,b=>by unfold RdV at a;exact a.elim
theorem RdL.inj:∀ (ds es:List D) (us:List af),RdL h ds us->RdL h es us->ds = es
 | [],es,us,a,b=>by
   unfold RdL at a;subst a
   cases es with
   | nil=>rfl
   | cons e es=>unfold RdL at b;obtain ⟨_,_,b,_⟩:=b;cases b
 | d::ds,es,us,a,b=>by
   unfold RdL at a;obtain ⟨w,ws,a,h1,h2⟩:=a;subst a
   cases es with
   | nil=>unfold RdL at b;cases b
   | cons e es =>
     unfold RdL at b;obtain ⟨_,_,b,k1,k2⟩:=b;cases b;rw [RdV.inj d e w h1 k1,RdL.inj ds es ws h2 k2]
end
mutual
theorem nu:∀ d:D,dep d < 100000->eqD d d = true
 | .non,_=>by unfold eqD;rfl
 | .bl b,_=>by unfold eqD;simp
 | .int b,_=>by unfold eqD;simp
 | .str b,_=>by unfold eqD;simp
 | .lst ds,h=>by unfold eqD;exact oC ds (by unfold dep at h;lia)
 | .tup ds,h=>by unfold eqD;exact oC ds (by unfold dep at h;lia)
 | .fn _ _,h=>by unfold dep at h;lia
theorem oC:∀ ds:List D,bZ ds < 100000->gy ds ds = true
 | [],_=>by unfold gy;rfl
 | d::ds,h=>by
   unfold bZ at h;unfold gy;rw [nu d (by lia),oC ds (by lia)];rfl
end
noncomputable def pairD (ds es:List D) (j:Nat):Bool:=match ds[j]?,es[j]? with
 | some x,some y=>eqD x y
 | _,_=>false
theorem lH:∀ (ds es:List D),(bD (min ds.length es.length)).all (pairD ds es) = true/\ds.length = es.length↔gy ds es = true
 | [],[]=>by unfold gy;simp
 | [],_::_=>by unfold gy;simp
 | _::_,[]=>by unfold gy;simp
 | d::ds,e::es=>by
   have ih:=lH ds es;have e1:min (d::ds).length (e::es).length = min ds.length es.length+1:=by simp only [ay];lia
   rw [e1,List.range_succ_eq_map,gq,List.all_map];have e2:(pairD (d::ds) (e::es) ∘ Nat.succ) = pairD ds es:=by funext j;simp [pairD]
   rw [e2];unfold gy;rw [aa,aa,<- ih];have e3:pairD (d::ds) (e::es) 0 = eqD d e:=rfl;rw [e3];simp only [ay];constructor
   . rintro ⟨⟨a,b⟩,c⟩;exact ⟨a,b,by lia⟩
   . rintro ⟨a,b,c⟩;exact ⟨⟨a,b⟩,by lia⟩
theorem rG (h:ds.length = es.length):(bD ds.length).all (pairD ds es) = gy ds es:=by
 have q:=lH ds es;rw [<- h,zo] at q;rw [dO];rw [<- q];simp
theorem uX (h:ds.length≠es.length):gy ds es = false:=by
 have q:=lH ds es;rw [dQ];intro z;exact h (q.mpr z).2
theorem oE (ds es:List D):((bD (min ds.length es.length)).all (pairD ds es) && ds.length == es.length) = gy ds es:=by
 have q:=lH ds es;rw [dO,aa,<- q];simp
theorem RdL.length:∀ {ds:List D} {us:List af},RdL h ds us->us.length = ds.length
 | [],us,a=>by unfold RdL at a;subst a;rfl
 | d::ds,us,a=>by
   unfold RdL at a;obtain ⟨w,ws,a,_,h2⟩:=a;subst a;rw [ay,ay,RdL.length h2]
theorem mm1 (a b c d:Nat):min a c<=min (max a b) (max c d):=Hk.mpr ⟨aX (sy _ _) (sA _ _),aX (iw _ _) (sA _ _)⟩
theorem mm2 (a b c d:Nat):min b d<=min (max a b) (max c d):=Hk.mpr ⟨aX (sy _ _) (rV _ _),aX (iw _ _) (rV _ _)⟩
mutual
theorem rH:∀ (a b:D) (A:ba) (s:ai) (u v:af),RdV s.heap a u->RdV s.heap b v->A.units+min (dep a) (dep b) < cLine->EqAt A s u v (eqD a b)
 | .non,b,A,s,u,v,ra,rb,hu=>by
   unfold RdV at ra;subst ra
   cases b with
   | non=>unfold RdV at rb;subst rb;unfold eqD;exact Hw _
   | bl b=>unfold RdV at rb;subst rb;unfold eqD;exact EqAt.none_bool b
   | int b=>unfold RdV at rb;obtain ⟨t,rfl⟩:=rb;unfold eqD;exact EqAt.none_int b t
   | str b=>unfold RdV at rb;obtain ⟨t,rfl⟩:=rb;unfold eqD;exact EqAt.none_str b t
   | lst ds=>unfold RdV at rb;obtain ⟨l,its,rfl,h1,h2⟩:=rb;unfold eqD;exact EqAt.none_list h1 (by lia)
   | tup ds=>unfold RdV at rb;obtain ⟨l,its,rfl,h1,h2⟩:=rb;unfold eqD;exact EqAt.none_tuple h1 (by lia)
   | fn _ _=>unfold RdV at rb;exact rb.elim
 | .bl a,b,A,s,u,v,ra,rb,hu=>by
   unfold RdV at ra;subst ra
   cases b with
   | non=>unfold RdV at rb;subst rb;unfold eqD;exact EqAt.bool_none a
   | bl b=>unfold RdV at rb;subst rb;unfold eqD;exact EqAt.bool_bool a b
   | int b=>unfold RdV at rb;obtain ⟨t,rfl⟩:=rb;unfold eqD;exact EqAt.bool_int a b t
   | str b=>unfold RdV at rb;obtain ⟨t,rfl⟩:=rb;unfold eqD;exact EqAt.bool_str a b t
   | lst ds=>unfold RdV at rb;obtain ⟨l,its,rfl,h1,h2⟩:=rb;unfold eqD;exact EqAt.bool_list a h1 (by lia)
   | tup ds=>unfold RdV at rb;obtain ⟨l,its,rfl,h1,h2⟩:=rb;unfold eqD;exact EqAt.bool_tuple a h1 (by lia)
   | fn _ _=>unfold RdV at rb;exact rb.elim
 | .int a,b,A,s,u,v,ra,rb,hu=>by
   unfold RdV at ra;obtain ⟨t',rfl⟩:=ra
   cases b with
   | non=>unfold RdV at rb;subst rb;unfold eqD;exact EqAt.int_none a t'
   | bl b=>unfold RdV at rb;subst rb;unfold eqD;exact EqAt.int_bool a t' b
   | int b=>unfold RdV at rb;obtain ⟨t,rfl⟩:=rb;unfold eqD;exact EqAt.int_int a t' b t
   | str b=>unfold RdV at rb;obtain ⟨t,rfl⟩:=rb;unfold eqD;exact EqAt.int_str a t' b t
   | lst ds=>unfold RdV at rb;obtain ⟨l,its,rfl,h1,h2⟩:=rb;unfold eqD;exact EqAt.int_list a t' h1 (by lia)
   | tup ds=>unfold RdV at rb;obtain ⟨l,its,rfl,h1,h2⟩:=rb;unfold eqD;exact EqAt.int_tuple a t' h1 (by lia)
   | fn _ _=>unfold RdV at rb;exact rb.elim
 | .str a,b,A,s,u,v,ra,rb,hu=>by
   unfold RdV at ra;obtain ⟨t',rfl⟩:=ra
   cases b with
   | non=>unfold RdV at rb;subst rb;unfold eqD;exact EqAt.str_none a t'
   | bl b=>unfold RdV at rb;subst rb;unfold eqD;exact EqAt.str_bool a t' b
   | int b=>unfold RdV at rb;obtain ⟨t,rfl⟩:=rb;unfold eqD;exact EqAt.str_int a t' b t
   | str b=>unfold RdV at rb;obtain ⟨t,rfl⟩:=rb;unfold eqD;exact EqAt.str_str a t' b t
   | lst ds=>unfold RdV at rb;obtain ⟨l,its,rfl,h1,h2⟩:=rb;unfold eqD;exact EqAt.str_list a t' h1 (by lia)
   | tup ds=>unfold RdV at rb;obtain ⟨l,its,rfl,h1,h2⟩:=rb;unfold eqD;exact EqAt.str_tuple a t' h1 (by lia)
   | fn _ _=>unfold RdV at rb;exact rb.elim
 | .lst ds,b,A,s,u,v,ra,rb,hu=>by
   have ra':=ra;unfold RdV at ra;obtain ⟨l,its,rfl,h1,h2⟩:=ra
   cases b with
   | non=>unfold RdV at rb;subst rb;unfold eqD;exact EqAt.list_none h1 (by lia)
   | bl b=>unfold RdV at rb;subst rb;unfold eqD;exact EqAt.list_bool b h1 (by lia)
   | int b=>unfold RdV at rb;obtain ⟨t,rfl⟩:=rb;unfold eqD;exact EqAt.list_int b t h1 (by lia)
   | str b=>unfold RdV at rb;obtain ⟨t,rfl⟩:=rb;unfold eqD;exact EqAt.list_str b t h1 (by lia)
   | tup es=>unfold RdV at rb;obtain ⟨l',its',rfl,k1,k2⟩:=rb;unfold eqD;exact EqAt.list_tuple h1 k1 (by lia)
   | lst es =>
     have rb':=rb;unfold RdV at rb;obtain ⟨l',its',rfl,k1,k2⟩:=rb;by_cases hl:l = l'
     . subst hl;have e:=RdV.inj _ _ _ ra' rb';cases e;have hd:dep (.lst ds) < 100000:=by rw [zo] at hu;have:cLine = 9900:=rfl;lia
       rw [nu _ hd];exact Hw _
     . unfold eqD;have n1:its.size = ds.length:=by simpa using h2.length
       have n2:its'.size = es.length:=by simpa using k2.length
       have he:∀ j (j1:j < its.size) (j2:j < its'.size),EqAt A.in1 s its[j] its'[j] (pairD ds es j):=fun j j1 j2=>by
        have q:=kb ds es A.in1 s its.toList its'.toList h2 k2 (by show A.units+1+_ < _;unfold dep at hu;lia) j (by simpa using j1) (by simpa using j2);simpa using q
       refine EqAt.of_refs hl ?_;by_cases hsz:its.size = its'.size
       . rw [<- rG (by lia:ds.length = es.length),<- n1];exact RcAt.lists h1 k1 hsz (by lia) he
       . rw [uX (by lia:ds.length≠es.length)]
         exact RcAt.lists_lengths h1 k1 (by simpa using hsz) (by lia)
   | fn _ _=>unfold RdV at rb;exact rb.elim
 | .tup ds,b,A,s,u,v,ra,rb,hu=>by
   have ra':=ra;unfold RdV at ra;obtain ⟨l,its,rfl,h1,h2⟩:=ra
   cases b with
   | non=>unfold RdV at rb;subst rb;unfold eqD;exact EqAt.tuple_none h1 (by lia)
   | bl b=>unfold RdV at rb;subst rb;unfold eqD;exact EqAt.tuple_bool b h1 (by lia)
   | int b=>unfold RdV at rb;obtain ⟨t,rfl⟩:=rb;unfold eqD;exact EqAt.tuple_int b t h1 (by lia)
   | str b=>unfold RdV at rb;obtain ⟨t,rfl⟩:=rb;unfold eqD;exact EqAt.tuple_str b t h1 (by lia)
   | lst es=>unfold RdV at rb;obtain ⟨l',its',rfl,k1,k2⟩:=rb;unfold eqD;exact EqAt.tuple_list h1 k1 (by lia)
   | tup es =>
     have rb':=rb;unfold RdV at rb;obtain ⟨l',its',rfl,k1,k2⟩:=rb;by_cases hl:l = l'
     . subst hl;have e:=RdV.inj _ _ _ ra' rb';cases e;have hd:dep (.tup ds) < 100000:=by rw [zo] at hu;have:cLine = 9900:=rfl;lia
       rw [nu _ hd];exact Hw _
     . unfold eqD;have n1:its.size = ds.length:=by simpa using h2.length
       have n2:its'.size = es.length:=by simpa using k2.length
       have he:∀ j (j1:j < its.size) (j2:j < its'.size),EqAt A.in1 s its[j] its'[j] (pairD ds es j):=fun j j1 j2=>by
        have q:=kb ds es A.in1 s its.toList its'.toList h2 k2 (by show A.units+1+_ < _;unfold dep at hu;lia) j (by simpa using j1) (by simpa using j2);simpa using q
       refine EqAt.of_refs hl ?_;rw [<- oE,<- n1,<- n2]
       exact RcAt.tuples h1 k1 (by lia) he
   | fn _ _=>unfold RdV at rb;exact rb.elim
 | .fn _ _,b,A,s,u,v,ra,rb,hu=>by unfold RdV at ra;exact ra.elim
theorem kb:∀ (ds es:List D) (A:ba) (s:ai) (us vs:List af),RdL s.heap ds us->RdL s.heap es vs->A.units+min (bZ ds) (bZ es) < cLine->∀ j (h1:j < us.length) (h2:j < vs.length),EqAt A s us[j] vs[j] (pairD ds es j)
 | [],_,_,_,us,_,ra,_,_,j,h1,_=>by unfold RdL at ra;subst ra;exact absurd h1 (Kg _)
 | _::_,[],_,_,_,vs,_,rb,_,j,_,h2=>by unfold RdL at rb;subst rb;exact absurd h2 (Kg _)
 | d::ds,e::es,A,s,us,vs,ra,rb,hu,j,h1,h2=>by
   unfold RdL at ra rb;obtain ⟨w,ws,rfl,a1,a2⟩:=ra;obtain ⟨w',ws',rfl,b1,b2⟩:=rb;unfold bZ at hu
   cases j with
   | zero=>exact rH d e A s w w' a1 b1 (bV (gh (mm1 _ _ _ _) _) hu)
   | succ j =>
     have q:=kb ds es A s ws ws' a2 b2 (bV (gh (mm2 _ _ _ _) _) hu) j (by simpa using h1) (by simpa using h2);simpa [pairD] using q
end
theorem AK (h:i.natAbs < 2 ^ 200):tX i<=2 ^ 20:=by
 unfold tX;split
 . exact cu _
 . rename_i h0;have:i.natAbs.log2 < 200:=(CP (by simpa using h0)).mpr h;have:(200:Nat)<=2 ^ 20:=by decide
   lia
theorem Jj (h:sX i j = true):IntMulOk i j:=by
 unfold sX at h;simp only [cD,aa,decide_eq_true_eq] at h;rcases h with (h | h) | h
 . exact .of_left (intBits_le_64 h.1 h.2)
 . exact .of_right (intBits_le_64 h.1 h.2)
 . exact .of_bits (AK h.1) (AK h.2)
theorem IY:OpR X (binaryOp .Mult) (rI IntMulOk fun i j=>.int (i * j)):=opI fun _ _ _ _ _ _ _ hc q=>PyProof.Rows.mul_int q hc
theorem Fg:OpR X (binaryOp .FloorDiv) (rI (fun _ j=>0 < j/\j < 1000000000000000000000000000000000000000000000000000000000000) fun i j=>.int (i / j)):=opI fun i j _ _ _ _ _ hc q=>by
 have h1:(0:Int) < j:=hc.1;have h2:j < 1000000000000000000000000000000000000000000000000000000000000:=hc.2;refine PyProof.Rows.floordiv_int (by lia) (by rw [Int.fdiv_eq_ediv_of_nonneg i (by lia)];exact q) (.inl (PyProof.noPylong_of_log2 ?_));exact Nat.lt_trans ((CP (k:=200) (by lia)).mpr (aW (show j.natAbs < 1000000000000000000000000000000000000000000000000000000000000 by lia) (by decide +kernel))) (by decide)
section
variable {X:Cx}
theorem Mg (hu:X.A.units+200 < cLine):OpR X (compareOp .Eq) (fun x y H Q=>∃ F a b,dE X.K H F a x/\dE X.K H F b y/\iU a b = true/\Q (.bl (eqD a b)) H):=by
 intro pins s σ H x y v u Q I rx ry h;obtain ⟨F,a,b,ha,hb,hk,q⟩:=h;unfold iU at hk;rw [aa,aa] at hk;obtain ⟨⟨hk,hd⟩,hm⟩:=hk;replace hd:=of_decide_eq_true hd;replace hm:=of_decide_eq_true hm;have ra:=fK I ha rx (by lia);have rb:=fK I hb ry (by lia);have fin:∀ k:Bool,k = eqD a b->EP X pins σ Q (.bool k) s:=fun k e=>⟨.bl k,H,I,rfl,by rw [e];exact q⟩
 cases a<;>cases b<;>first
  | (exact absurd (show false = true from hk) au)
  | skip
 . unfold RdV at ra rb;subst ra;subst rb;exact RcAt.bool_bool _ _ _ _ _ _ (fin _ (by unfold eqD;rfl))
 . unfold RdV at ra rb;obtain ⟨t,rfl⟩:=ra;obtain ⟨t',rfl⟩:=rb;exact RcAt.int_int _ _ _ _ _ _ _ _ (fin _ (by unfold eqD;rfl))
 . unfold RdV at ra rb;obtain ⟨t,rfl⟩:=ra;obtain ⟨t',rfl⟩:=rb;exact RcAt.str_str _ _ _ _ _ _ _ _ (fin _ (by unfold eqD;rfl))
 . rename_i ds es;unfold RdV at ra rb;obtain ⟨l,its,rfl,h1,h2⟩:=ra;obtain ⟨l',its',rfl,k1,k2⟩:=rb;have n1:its.size = ds.length:=by simpa using h2.length
   have n2:its'.size = es.length:=by simpa using k2.length
   have he:∀ j (j1:j < its.size) (j2:j < its'.size),EqAt X.A.in1 s its[j] its'[j] (pairD ds es j):=fun j j1 j2=>by
    have q:=kb ds es X.A.in1 s its.toList its'.toList h2 k2 (by show X.A.units+1+_ < _;unfold dep at hd;lia) j (by simpa using j1) (by simpa using j2);simpa using q
   by_cases hsz:its.size = its'.size
   . refine eq_listAt h1 k1 hsz (by lia) he (fin _ ?_);unfold eqD;rw [n1];exact rG (by lia)
   . refine eq_list_lengthsAt h1 k1 (by simpa using hsz) (by lia) (fin _ ?_);unfold eqD;exact (uX (by lia)).symm
 . rename_i ds es;unfold RdV at ra rb;obtain ⟨l,its,rfl,h1,h2⟩:=ra;obtain ⟨l',its',rfl,k1,k2⟩:=rb;have n1:its.size = ds.length:=by simpa using h2.length
   have n2:its'.size = es.length:=by simpa using k2.length
   have he:∀ j (j1:j < its.size) (j2:j < its'.size),EqAt X.A.in1 s its[j] its'[j] (pairD ds es j):=fun j j1 j2=>by
    have q:=kb ds es X.A.in1 s its.toList its'.toList h2 k2 (by show X.A.units+1+_ < _;unfold dep at hd;lia) j (by simpa using j1) (by simpa using j2);simpa using q
   refine eq_tupleAt h1 k1 (by lia) he (fin _ ?_);unfold eqD;rw [n1,n2];exact oE ds es
theorem Mc (hu:X.A.units+200 < cLine):OpR X (compareOp .NotEq) (fun x y H Q=>∃ F a b,dE X.K H F a x/\dE X.K H F b y/\iU a b = true/\Q (.bl (!eqD a b)) H):=by
 intro pins s σ H x y v u Q I rx ry h;obtain ⟨F,a,b,ha,hb,hk,q⟩:=h;unfold iU at hk;rw [aa,aa] at hk;obtain ⟨⟨hk,hd⟩,hm⟩:=hk;replace hd:=of_decide_eq_true hd;replace hm:=of_decide_eq_true hm;have ra:=fK I ha rx (by lia);have rb:=fK I hb ry (by lia);have fin:∀ k:Bool,k = (!eqD a b)->EP X pins σ Q (.bool k) s:=fun k e=>⟨.bl k,H,I,rfl,by rw [e];exact q⟩
 cases a<;>cases b<;>first
  | (exact absurd (show false = true from hk) au)
  | skip
 . unfold RdV at ra rb;subst ra;subst rb;exact RcNeAt.bool_bool _ _ _ _ _ _ (fin _ (by unfold eqD;rfl))
 . unfold RdV at ra rb;obtain ⟨t,rfl⟩:=ra;obtain ⟨t',rfl⟩:=rb;exact RcNeAt.int_int _ _ _ _ _ _ _ _ (fin _ (by unfold eqD;rfl))
 . unfold RdV at ra rb;obtain ⟨t,rfl⟩:=ra;obtain ⟨t',rfl⟩:=rb;exact RcNeAt.str_str _ _ _ _ _ _ _ _ (fin _ (by unfold eqD;rfl))
 . rename_i ds es;unfold RdV at ra rb;obtain ⟨l,its,rfl,h1,h2⟩:=ra;obtain ⟨l',its',rfl,k1,k2⟩:=rb;have n1:its.size = ds.length:=by simpa using h2.length
   have n2:its'.size = es.length:=by simpa using k2.length
   have he:∀ j (j1:j < its.size) (j2:j < its'.size),EqAt X.A.in1 s its[j] its'[j] (pairD ds es j):=fun j j1 j2=>by
    have q:=kb ds es X.A.in1 s its.toList its'.toList h2 k2 (by show X.A.units+1+_ < _;unfold dep at hd;lia) j (by simpa using j1) (by simpa using j2);simpa using q
   by_cases hsz:its.size = its'.size
   . refine RcNeAt.lists h1 k1 hsz (by lia) he _ _ _ _ (fin _ ?_);unfold eqD;rw [n1,rG (by lia)]
   . refine RcNeAt.lists_lengths h1 k1 (by simpa using hsz) (by lia) _ _ _ _ (fin _ ?_);unfold eqD;rw [uX (by lia)];rfl
 . rename_i ds es;unfold RdV at ra rb;obtain ⟨l,its,rfl,h1,h2⟩:=ra;obtain ⟨l',its',rfl,k1,k2⟩:=rb;have n1:its.size = ds.length:=by simpa using h2.length
   have n2:its'.size = es.length:=by simpa using k2.length
   have he:∀ j (j1:j < its.size) (j2:j < its'.size),EqAt X.A.in1 s its[j] its'[j] (pairD ds es j):=fun j j1 j2=>by
    have q:=kb ds es X.A.in1 s its.toList its'.toList h2 k2 (by show X.A.units+1+_ < _;unfold dep at hd;lia) j (by simpa using j1) (by simpa using j2);simpa using q
   refine RcNeAt.tuples h1 k1 (by lia) he _ _ _ _ (fin _ ?_);unfold eqD;rw [n1,n2,oE ds es]
open Classical in
noncomputable def isEq (h:bK) (a:D) (u:af):Bool:=if ∃ d,RdV h d u/\eqD d a = true then true else false
theorem Ai (r:RdV h d u):isEq h a u = eqD d a:=by
 unfold isEq
 cases e:eqD d a with
 | true=>rw [if_pos ⟨d,r,e⟩]
 | false =>
   rw [if_neg];rintro ⟨d',r',e'⟩;rw [RdV.inj d d' u r r',e'] at e;cases e
theorem ll:∀ {ds:List D} {us:List af},RdL h ds us->us.any (isEq h a) = ds.any fun d=>eqD d a
 | [],us,r=>by unfold RdL at r;subst r;rfl
 | d::ds,us,r=>by
   unfold RdL at r;obtain ⟨w,ws,rfl,h1,h2⟩:=r;rw [jN,jN,Ai h1,ll h2]
theorem kQ (rv:RdV s.heap a v) (hu:A.units+dep a < cLine):∀ {ds:List D} {us:List af},RdL s.heap ds us->∀ u∈us,EqAt A s u v (isEq s.heap a u)
 | [],us,r=>fun u hm=>by unfold RdL at r;subst r;cases hm
 | d::ds,us,r=>fun u hm=>by
   unfold RdL at r;obtain ⟨w,ws,rfl,h1,h2⟩:=r;rcases aD.mp hm with rfl | hm
   . rw [Ai h1];exact rH d a A s u v h1 rv (by lia)
   . exact kQ rv hu h2 u hm
theorem Mf (hu:X.A.units+200 < cLine):OpR X (compareOp .In) (fun x y H Q=>∃ F a ds,dE X.K H F a x/\(dE X.K H F (.lst ds) y\/dE X.K H F (.tup ds) y)/\(dep a<=150/\bZ ds < 99999)/\Q (.bl (ds.any fun d=>eqD d a)) H):=by
 intro pins s σ H x y v u Q I rx ry h;obtain ⟨F,a,ds,ha,hb,⟨hd,hm⟩,q⟩:=h;have ra:=fK I ha rx (by lia);have fin:∀ k:Bool,k = (ds.any fun d=>eqD d a)->EP X pins σ Q (.bool k) s:=fun k e=>⟨.bl k,H,I,rfl,by rw [e];exact q⟩;rcases hb with hb | hb
 . have rb:=fK I hb ry (by unfold dep;lia);unfold RdV at rb;obtain ⟨l',its',rfl,k1,k2⟩:=rb;refine in_listAt (isEq s.heap a) k1 (fun w hw=>kQ ra (by show X.A.units+1+_ < _;lia) k2 w (by simpa using hw)) (fin _ ?_);rw [show its'.any (isEq s.heap a) = its'.toList.any (isEq s.heap a) by simp,ll k2]
 . have rb:=fK I hb ry (by unfold dep;lia);unfold RdV at rb;obtain ⟨l',its',rfl,k1,k2⟩:=rb;refine in_tupleAt (isEq s.heap a) k1 (fun w hw=>kQ ra (by show X.A.units+1+_ < _;lia) k2 w (by simpa using hw)) (fin _ ?_);rw [show its'.any (isEq s.heap a) = its'.toList.any (isEq s.heap a) by simp,ll k2]
theorem BY (hu:X.A.units+200 < cLine):OpR X (compareOp .NotIn) (fun x y H Q=>∃ F a ds,dE X.K H F a x/\(dE X.K H F (.lst ds) y\/dE X.K H F (.tup ds) y)/\(dep a<=150/\bZ ds < 99999)/\Q (.bl (!ds.any fun d=>eqD d a)) H):=by
 intro pins s σ H x y v u Q I rx ry h;obtain ⟨F,a,ds,ha,hb,⟨hd,hm⟩,q⟩:=h;have ra:=fK I ha rx (by lia);have fin:∀ k:Bool,k = (!ds.any fun d=>eqD d a)->EP X pins σ Q (.bool k) s:=fun k e=>⟨.bl k,H,I,rfl,by rw [e];exact q⟩;rcases hb with hb | hb
 . have rb:=fK I hb ry (by unfold dep;lia);unfold RdV at rb;obtain ⟨l',its',rfl,k1,k2⟩:=rb;refine notIn_listAt (isEq s.heap a) k1 (fun w hw=>kQ ra (by show X.A.units+1+_ < _;lia) k2 w (by simpa using hw)) (fin _ ?_);rw [show its'.any (isEq s.heap a) = its'.toList.any (isEq s.heap a) by simp,ll k2]
 . have rb:=fK I hb ry (by unfold dep;lia);unfold RdV at rb;obtain ⟨l',its',rfl,k1,k2⟩:=rb;refine notIn_tupleAt (isEq s.heap a) k1 (fun w hw=>kQ ra (by show X.A.units+1+_ < _;lia) k2 w (by simpa using hw)) (fin _ ?_);rw [show its'.any (isEq s.heap a) = its'.toList.any (isEq s.heap a) by simp,ll k2]
theorem DS {ns:List Int}:∀ {xs:List V} {us:List af},xs = ns.map V.int->Vals xs us->∀ i v,us[i]? = some v->∃ t,v = vC (ns.getD i 0) t:=by
 induction ns with
 | nil=>intro xs us e r i v h;subst e;cases r;simp at h
 | cons n ns ih =>
   intro xs us e r i v h;subst e
   cases r with
   | cons r1 r2 =>
     cases i with
     | zero=>simp at h;subst h;obtain ⟨t,e⟩:=r1;exact ⟨t,by simpa using e⟩
     | succ i =>
       obtain ⟨t,e⟩:=ih rfl r2 i v (by simpa using h);exact ⟨t,by simpa using e⟩
theorem HP {ns:List Bool}:∀ {xs:List V} {us:List af},xs = ns.map V.bl->Vals xs us->∀ i v,us[i]? = some v->v = kE (ns.getD i false):=by
 induction ns with
 | nil=>intro xs us e r i v h;subst e;cases r;simp at h
 | cons n ns ih =>
   intro xs us e r i v h;subst e
   cases r with
   | cons r1 r2 =>
     cases i with
     | zero=>simp at h;subst h;have e:_ = kE n:=r1;simpa using e
     | succ i=>simpa using ih rfl r2 i v (by simpa using h)
theorem yD (bs:List Bool):((bD bs.length).any fun i=>bs.getD i false) = bs.any id:=by
 rw [dO,eH,eH];constructor
 . rintro ⟨i,hi,e⟩;have hi':=gK.mp hi;refine ⟨bs[i],ky hi',?_⟩;simpa [mC,ax hi'] using e
 . rintro ⟨b,hb,e⟩;obtain ⟨i,hi,rfl⟩:=List.getElem_of_mem hb;exact ⟨i,gK.mpr hi,by simpa [mC,ax hi] using e⟩
theorem CF (hc:X.calm = true):cL X (.builtin "any") (fun xs H Q=>∃ (p:aw) (ns:List Bool),xs = [.ref p]/\SqL X.K H p (ns.map V.bl)/\Q (.bl (ns.any id)) H):=by
 intro pins s σ H xs us Q I r h;obtain ⟨p,ns,rfl,hq,q⟩:=h;obtain ⟨u,rfl,rx⟩:=vals1 r;cases rx;obtain ⟨its,rv,pl,hz⟩:=I.list hq;have hlt:p < s.heap.objs.size:=by obtain ⟨o,e,_⟩:=pl.isList;exact az e
 refine call_any_walk (ir pl.isList ?_)
 refine ⟨s.heap.objs.size,[s.heap.objs.size,p],[s.heap.objs.size],its.toArray.size,_,_,fun i=>ns.getD i false,rfl,CK (A:=X.A.in1) (I.ok.hd hc) s.heap.objs.size p (aJ hlt) its.toArray,
  ⟨⟨_,aE _ rfl,rfl,rfl⟩,?_⟩,fun i v s' Q' E' hP hQ=>?_,fun h' tk hk=>?_⟩
 . obtain ⟨o,e,r⟩:=pl.isList;exact ⟨o,ag _ e,r⟩
 . rw [HP rfl rv i v (by simpa using hP)];exact fN hQ
 . have e:its.toArray.size = ns.length:=by rw [aH,<- rv.length,aj]
   rw [e,yD];exact ⟨.bl (ns.any id),H,I.kept (h':=h') (t':=tk) (fun b o e=>hk b o (by simp;exact aJ (az e)) (ag _ e)),rfl,q⟩
theorem BC (h:ns≠[]):vP (ns++[v]) = if v > vP ns then v else vP ns:=by
 cases ns with
 | nil=>exact absurd rfl h
 | cons n ns =>
   show (ns++[v]).foldl _ n = _;rw [Hl];rfl
theorem xH (ns:List Int):∀ k,k < ns.length->ns.getD (argBest (fun i j=>decide (ns.getD i 0 > ns.getD j 0)) k) 0 = vP (ns.take (k+1))
 | 0,h=>by
   cases ns with
   | nil=>cases h
   | cons n ns=>simp [argBest,vP]
 | k+1,h=>by
   have ih:=xH ns k (by lia);have e:ns[k+1]? = some (ns.getD (k+1) 0):=by rw [fJ,ax h];rfl
   have e2:ns.take (k+1+1) = ns.take (k+1)++[ns.getD (k+1) 0]:=by rw [List.take_add_one,e];rfl
   rw [e2,BC (by cases ns with
    | nil=>cases h
    | cons _ _=>simp),<- ih]
   show ns.getD (if decide (ns.getD (k+1) 0 > ns.getD (argBest (fun i j=>decide (ns.getD i 0 > ns.getD j 0)) k) 0) = true then k+1 else argBest (fun i j=>decide (ns.getD i 0 > ns.getD j 0)) k) 0 = _;by_cases hb:ns.getD (k+1) 0 > ns.getD (argBest (fun i j=>decide (ns.getD i 0 > ns.getD j 0)) k) 0
   . rw [if_pos (decide_eq_true hb),if_pos hb]
   . rw [if_neg (by simpa using hb),if_neg hb]
theorem CA (hc:X.calm = true):cL X (.builtin "max") (fun xs H Q=>∃ (p:aw) (ns:List Int),xs = [.ref p]/\ns≠[]/\SqL X.K H p (ns.map V.int)/\Q (.int (vP ns)) H):=by
 intro pins s σ H xs us Q I r h;obtain ⟨p,ns,rfl,hne,hq,q⟩:=h;obtain ⟨u,rfl,rx⟩:=vals1 r;cases rx;obtain ⟨its,rv,pl,hz⟩:=I.list hq;have hlt:p < s.heap.objs.size:=by obtain ⟨o,e,_⟩:=pl.isList;exact az e
 have hlen:its.toArray.size = ns.length:=by rw [aH,<- rv.length,aj]
 have hpos:0 < ns.length:=CT.mpr hne;have hval:∀ i v,its.toArray[i]? = some v->∃ t,v = vC (ns.getD i 0) t:=fun i v e=>DS rfl rv i v (by simpa using e);refine call_max_walk (ir pl.isList ?_)
 refine ⟨s.heap.objs.size,[s.heap.objs.size,p],[s.heap.objs.size],its.toArray.size,_,_,fun i j=>decide (ns.getD i 0 > ns.getD j 0),rfl,CK (A:=X.A.in1) (I.ok.hd hc) s.heap.objs.size p (aJ hlt) its.toArray,
  ⟨⟨_,aE _ rfl,rfl,rfl⟩,?_⟩,fun b hb=>?_,by rw [hlen];exact hpos,CmpOf.ints_gt (fun i=>ns.getD i 0) hval,fun v h' tk hv hk=>?_⟩
 . obtain ⟨o,e,r⟩:=pl.isList;exact ⟨o,ag _ e,r⟩
 . have:b = s.heap.objs.size\/b = p:=by simpa using hb
   show b < (s.heap.push _).objs.size;rw [bC];rcases this with rfl | rfl
   . exact eL _
   . exact bw hlt
 . refine ⟨.int (vP ns),H,I.kept (h':=h') (t':=tk) fun b o e=>?_,?_,q⟩
   . exact hk b o (by simp;exact aJ (az e)) (ag _ e)
   . obtain ⟨t,rfl⟩:=hval _ _ hv;refine ⟨t,?_⟩;rw [xH ns _ (by lia),hlen,show ns.length - 1+1 = ns.length by lia,Hs]
theorem GI {prog:aR} {w:bf} {A:ba} {E:af->ai->Prop} {s:ai} {t b:aw} {ws:List af} {Q:af->ai->Prop} (ht:JP s.heap t ([]:List af).toArray) (hb:JP s.heap b ws.toArray) (h:Q (.ref b) s):wpAny (model prog w) A (binaryOp .Add (.ref t) (.ref b)) Q E s:=by
 obtain ⟨⟨cls,dd,data,sl⟩,ho,hc,n,hd⟩:=id ht;obtain ⟨⟨cls2,dd2,data2,sl2⟩,ho2,hc2,n2,hd2⟩:=id hb;simp only at hc hd hc2 hd2;subst hc hd hc2 hd2;exact Hg ⟨_,ho,rfl⟩ ⟨_,ho2,rfl⟩ vx CI PySem.F.slot_tuple_add PySem.F.entry_tuple_add (PySem.F.args_tuple_add_2 _ _) (tuple_addW0 t b _ ws.toArray n n2 dd dd2 sl sl2 rfl) ⟨ho,ho2,h⟩
theorem Jb:OpR X (binaryOp .Add) (fun x y H Q=>∃ a b ys,x = .ref a/\y = .ref b/\SqT X.K H a []/\SqT X.K H b ys/\Q (.ref b) H):=by
 intro pins s σ H x y v u Q I rx ry h;obtain ⟨a,b,ys,rfl,rfl,ha,hb,q⟩:=h;cases rx;cases ry;obtain ⟨its,r1,p1,_⟩:=I.tuple ha;obtain ⟨its2,r2,p2,_⟩:=I.tuple hb;cases r1;exact GI p1 p2 ⟨.ref b,H,I,rfl,q⟩
noncomputable def tyName:Blt->Option String
 | .isBool=>some "bool"
 | _=>none
theorem MN (I:Inv X pins σ H s) (h:dE X.K H F (.lst ds) v) (r:RelV v u):∃ l its,u = .ref l/\s.heap.IsList l its:=by
 rcases h with h | ⟨a,xs,_,_,rfl,h1,_⟩
 . unfold Rel at h;obtain ⟨a,xs,rfl,h1,_⟩:=h;obtain ⟨its,_,p,_⟩:=I.list h1.sq;exact ⟨a,_,r,p.isList⟩
 . obtain ⟨its,_,p,_⟩:=I.list (.inl (.inl h1));exact ⟨a,_,r,p.isList⟩
theorem MM (I:Inv X pins σ H s) (h:dE X.K H F (.tup ds) v) (r:RelV v u):∃ l its,u = .ref l/\s.heap.IsTuple l its:=by
 rcases h with h | ⟨a,xs,_,e,_⟩
 . unfold Rel at h;obtain ⟨a,xs,rfl,h1,_⟩:=h;obtain ⟨its,_,p,_⟩:=I.tuple h1;exact ⟨a,_,r,p⟩
 . cases e
theorem GK (hT:tyName f = some T):cL X (.builtin "isinstance") (fun xs H Q=>∃ F d x b,dE X.K H F d x/\xs = [x,.ty T]/\lj f [d] = some (.bl b)/\Q (.bl b) H):=by
 intro pins s σ H xs us Q I r h;obtain ⟨F,d,x,b,hr,rfl,hb,q⟩:=h;obtain ⟨u,w',rfl,ru,rw'⟩:=vals2 r;cases (show w' = sv T from rw');have fin:∀ tk,EP X pins σ Q (.bool b) { s with toks:=tk }:=fun tk=>⟨.bl b,H,I.tok tk,rfl,q⟩
 cases d with
 | non=>have rd:=fK I hr ru (by unfold dep;lia);unfold RdV at rd;subst rd;cases f<;>simp [tyName] at hT<;>subst hT<;>simp [lj,iC] at hb<;>subst hb<;>exact PySem.W.kia_one PySem.W.kitx_none I.kIn nX rfl (fun z=>nomatch z) fin
 | bl y=>have rd:=fK I hr ru (by unfold dep;lia);unfold RdV at rd;subst rd;cases f<;>simp [tyName] at hT<;>subst hT<;>simp [lj,iC] at hb<;>subst hb<;>exact PySem.W.kia_one PySem.W.kitx_bool I.kIn nX rfl (fun z=>nomatch z) fin
 | int y=>have rd:=fK I hr ru (by unfold dep;lia);unfold RdV at rd;obtain ⟨t,rfl⟩:=rd;cases f<;>simp [tyName] at hT<;>subst hT<;>simp [lj,iC] at hb<;>subst hb<;>exact PySem.W.kia_one PySem.W.kitx_int I.kIn nX rfl (fun z=>nomatch z) fin
 | str y=>have rd:=fK I hr ru (by unfold dep;lia);unfold RdV at rd;obtain ⟨t,rfl⟩:=rd;cases f<;>simp [tyName] at hT<;>subst hT<;>simp [lj,iC] at hb<;>subst hb<;>exact PySem.W.kia_one PySem.W.kitx_str I.kIn nX rfl (fun z=>nomatch z) fin
 | lst y =>
   obtain ⟨l,its,rfl,⟨o,h1,h2,_⟩⟩:=MN I hr ru
   cases f<;>simp [tyName] at hT<;>subst hT<;>simp [lj,iC] at hb<;>subst hb<;>exact PySem.W.kia_one PySem.W.kitx_list I.kIn ⟨o,h1,h2⟩ rfl (fun z=>nomatch z) fin
 | tup y =>
   obtain ⟨l,its,rfl,⟨o,h1,h2,_⟩⟩:=MM I hr ru
   cases f<;>simp [tyName] at hT<;>subst hT<;>simp [lj,iC] at hb<;>subst hb<;>exact PySem.W.kia_one PySem.W.kitx_tuple I.kIn ⟨o,h1,h2⟩ rfl (fun z=>nomatch z) fin
 | fn _ _=>cases f<;>simp [tyName] at hT<;>simp [lj,iC] at hb
noncomputable def Its (x:Str):L2.It:=⟨fun i _=>i < x.cps.size,fun i H v H'=>H' = H/\∃ c,x.cps[i]? = some c/\v = .str ⟨#[c]⟩,fun i _=>i = x.cps.size⟩
theorem qA {P:aR} {w:bf} {K:PySem.W.Frag} {tg:aI} {it:aw} {n:Nat} {PV:Nat->af->Prop} {St:Nat->bK->Prop} {J:L2.It} {ty:String}
 (W:∀ A:ba,A.handled = none->Walks P w A it [it] [it] n PV St) (hst:∀ i h,St i h->∃ (o:Obj) (vs:Array af),h.get? it = some o/\o.cls = .type ty/\o.data = .fields vs)
 (hn:["enumerate","zip","dict_itemiterator","dict_reverseitemiterator","odict_iterator","itertools.zip_longest","itertools.pairwise"].contains ty = false)
 (go:∀ i H,J.go i H->i < n) (stop:∀ i H,J.stop i H->i = n) (yld:∀ i v H,PV i v->∃ x,RelV x v/\J.yld i H x H)
 (self:∀ (A:ba) (i:Nat) (s:ai) (Q:af->ai->Prop) (E:af->ai->Prop),St i s.heap->Q (.ref it) s->wpAny (model P w) A (pyIter (.ref it)) Q E s) :
 Turn P w K tg J [it] it St where
 mem:=by simp
 obj:=fun i h st b hb=>by
  have e:b = it:=by simpa using hb
  subst e;obtain ⟨o,vs,e,c,d⟩:=hst i h st;exact ⟨o,e,fun v z=>by rw [d] at z;cases z⟩
 keep:=fun i h h' st k=>(W { } rfl).frame i h h' st k
 item:=by
  intro X hP hw hK hc i pins s σ H E I hf st hg;subst hP hw hK;obtain ⟨f0,f1,f2,f3,f4,f5⟩:=hf it (by simp);refine (W X.A (I.ok.hd hc)).item i s _ _ (go i H hg) st fun v h' tk hv st' kk=>?_;have I1:Inv X pins σ H { s with heap:=h',toks:=tk }:=I.turned (fun b o hb e=>kk b o (by simpa using hb) e) f0 f1 f3 f4 f5;obtain ⟨o,vs,e,c,d⟩:=hst _ _ st';obtain ⟨x,r,y⟩:=yld i v H hv;exact ⟨v,rfl,Ar (s:={ s with heap:=h',toks:=tk }) e c d hn ⟨x,H,I1,r,y,st',fun b hb=>(hf b hb).1⟩⟩
 done:=by
  intro X hP hw hK hc i pins s σ H E I hf st hg;subst hP hw hK;obtain ⟨f0,f1,f2,f3,f4,f5⟩:=hf it (by simp);have e:=stop i H hg;subst e;exact (W X.A (I.ok.hd hc)).done s _ _ st fun h' tk kk=>⟨rfl,I.turned (fun b o hb e=>kk b o (by simpa using hb) e) f0 f1 f3 f4 f5⟩
 self:=self
theorem DX {P:aR} {w:bf} {K:PySem.W.Frag} {tg:aI} (it:aw) (x:Str) (t:Tok):Turn P w K tg (Its x) [it] it (fun i h=>h.IsStrIter it (strIterType x) x t i):=by
 unfold strIterType;split
 . exact qA (ty:="str_ascii_iterator") (fun A hA=>Walks.strAscii hA it x t) (fun i h ⟨o,e,c,d⟩=>⟨o,_,e,c,d⟩) (by decide) (fun i H z=>z) (fun i H z=>z) (fun i v H ⟨c,u,h1,h2⟩=>⟨.str ⟨#[c]⟩,⟨u,h2⟩,rfl,c,h1,rfl⟩) fun _ _ _ _ _ st h=>wpAny_pyIter_striter_ascii st h
 . exact qA (ty:="str_iterator") (fun A hA=>Walks.strWide hA it x t) (fun i h ⟨o,e,c,d⟩=>⟨o,_,e,c,d⟩) (by decide) (fun i H z=>z) (fun i H z=>z) (fun i v H ⟨c,u,h1,h2⟩=>⟨.str ⟨#[c]⟩,⟨u,h2⟩,rfl,c,h1,rfl⟩) fun _ _ _ _ _ st h=>wpAny_pyIter_striter_wide st h
end
end PP
end
section
namespace PP
open PySem L2 PyProof.Rows PySem.SeqAt PySem.Calls
section
variable {prog:aR} {w:bf} {A:ba} {R:rT->ai->Prop} {I:aw} {fp wr:List aw} {n:Nat} {P:Nat->af->Prop} {St:Nat->bK->Prop}
end
variable {X:Cx} [Tbs]
end PP
end
section
namespace PP
open PySem L2 PySem.SeqAt PyProof.Rows PySem.W
open AutoSeq1 (wpAny_loadPart')
open MeetsSeq MeetsSeq2 MeetsSeq3 SeqRoads2
variable [Tbs]
noncomputable def GZ (A:ba) (s:ai) (u v:af) (b:Bool):Prop:=∀ (prog:aR) (w:bf) (E:af->ai->Prop) (Q:af->ai->Prop),Q (.bool b) s->wpAny (model prog w) A (richCompare .Lt u v) Q E s
noncomputable def xN (A:ba) (s:ai) (last:Bool):List (af × af)->Bool->Prop
 | [],b=>b = last
 | (p,q)::r,b=>∃ e,EqAt A s p q e/\if e = true then xN A s last r b else GZ A s p q b
theorem yq (l m:aw) (xs ys:Array af) (n n2:Nat) (dd dd2:Option aw) (sl sl2:Array (Option af)) (b:Bool) :
 Meets (eQ.«tuple.__lt__» ⟨[.ref l,.ref m],[]⟩)
  (fun A R s=>s.heap.get? l = some ⟨.type "tuple",dd,.seq xs n,sl⟩/\s.heap.get? m = some ⟨.type "tuple",dd2,.seq ys n2,sl2⟩ /\
    xN A.in1 s (decide (xs.size < ys.size)) (xs.toList.zip ys.toList) b/\R (.ok (.ret (.bool b))) s) :=
 .of_wp fun prog w A R s h=>by
  obtain ⟨h0,g0,d0,t0,o0⟩:=s;obtain ⟨hx,hy,hlex,hR⟩:=h;have sub:=AutoSeq1.sub_tuple_tuple
  wp_walk using mF hx,mF hy,wpAny_forIn_list _ (fun rest st s'=>st.1 = none/\s' = ⟨h0,g0,d0,t0,o0⟩/\xN A.in1 ⟨h0,g0,d0,t0,o0⟩ (decide (xs.size < ys.size)) rest b) _
  case turn =>
   rintro ⟨y,x⟩ rest st s' ⟨hst,rfl,e,he,hr⟩;refine ab (he prog w _ _ ?_)
   cases e with
   | true =>
     rw [if_pos rfl] at hr
     wp_walk
     exact ⟨rfl,rfl,hr⟩
   | false =>
     rw [if_neg au] at hr;have hr':∀ {Q:af->ai->Prop} {E:af->ai->Prop},Q (.bool b) ⟨h0,g0,d0,t0,o0⟩->wpAny (model prog w) A.in1 (richCompare .Lt y x) Q E ⟨h0,g0,d0,t0,o0⟩:=fun {Q E} h=>hr prog w E Q h
     wp_walk using hr'
     exact ⟨_,rfl,hR⟩
  case fin =>
   rintro ⟨b1,b2⟩ s' ⟨hst,rfl,hl⟩;simp only at hst;subst hst;have hl:b = decide (xs.size < ys.size):=hl
   wp_walk
   refine ⟨_,rfl,?_⟩;have:Builtin.Tuple.tupleCompareSizes .Lt xs.size ys.size = .bool b:=by rw [hl];rfl
   rw [this];exact hR
  case h=>exact ⟨rfl,rfl,hlex⟩
theorem GZ.tuples (hx:s.heap.IsTuple l xs) (hy:s.heap.IsTuple m ys) (hu:A.units < cLine) (h:xN A.in1 s (decide (xs.size < ys.size)) (xs.toList.zip ys.toList) b):GZ A s (.ref l) (.ref m) b:=by
 intro prog w E Q q;obtain ⟨⟨c1,d1,t1,s1⟩,e1,k1,n1,f1⟩:=hx;obtain ⟨⟨c2,d2,t2,s2⟩,e2,k2,n2,f2⟩:=hy;have k1:c1 = _:=k1;have f1:t1 = _:=f1;have k2:c2 = _:=k2;have f2:t2 = _:=f2;subst k1 f1 k2 f2;have nn:kE b≠zi:=fun z=>nomatch z;exact richCompare_meets_room (op:=.Lt) ⟨_,e1,rfl⟩ ⟨_,e2,rfl⟩ F.slot_tuple_lt F.entry_tuple_lt (F.args_tuple_lt_2 _ _) (yq l m xs ys n1 n2 d1 d2 s1 s2 b) ⟨e1,e2,h,(show kE b≠zi/\Q (.bool b) s from ⟨nn,q⟩)⟩ hu
mutual
theorem yP:∀ (a b:D) (A:ba) (s:ai) (u v:af) (k:Bool),RdV s.heap a u->RdV s.heap b v->A.units+min (dep a) (dep b)+1 < cLine->ltD a b = some k->GZ A s u v k
 | .int a,b,A,s,u,v,k,ra,rb,hu,h=>by
   cases b with
   | int b =>
     unfold ltD at h;cases h;unfold RdV at ra rb;obtain ⟨t,rfl⟩:=ra;obtain ⟨t',rfl⟩:=rb;intro prog w E Q q
     exact lt_int q
   | _=>unfold ltD at h;cases h
 | .str a,b,A,s,u,v,k,ra,rb,hu,h=>by
   cases b with
   | str b =>
     unfold ltD at h;cases h;unfold RdV at ra rb;obtain ⟨t,rfl⟩:=ra;obtain ⟨t',rfl⟩:=rb;intro prog w E Q q
     exact lt_str q
   | _=>unfold ltD at h;cases h
 | .tup a,b,A,s,u,v,k,ra,rb,hu,h=>by
   cases b with
   | tup b =>
     unfold ltD at h;unfold RdV at ra rb;obtain ⟨l,xs,rfl,h1,h2⟩:=ra;obtain ⟨m,ys,rfl,k1,k2⟩:=rb;have n1:xs.size = a.length:=by simpa using h2.length
     have n2:ys.size = b.length:=by simpa using k2.length
     refine GZ.tuples h1 k1 (by lia) ?_;rw [n1,n2];unfold dep at hu
     exact wY a b A.in1 s xs.toList ys.toList k h2 k2 (by show A.units+1+_+1 < _;lia) h
   | _=>unfold ltD at h;cases h
 | .non,b,A,s,u,v,k,ra,rb,hu,h=>by cases b<;>(unfold ltD at h;cases h)
 | .bl x,b,A,s,u,v,k,ra,rb,hu,h=>by cases b<;>(unfold ltD at h;cases h)
 | .lst x,b,A,s,u,v,k,ra,rb,hu,h=>by cases b<;>(unfold ltD at h;cases h)
 | .fn x y,b,A,s,u,v,k,ra,rb,hu,h=>by cases b<;>(unfold ltD at h;cases h)
theorem wY:∀ (as bs:List D) (A:ba) (s:ai) (us vs:List af) (k:Bool),RdL s.heap as us->RdL s.heap bs vs->A.units+min (bZ as) (bZ bs)+1 < cLine->dX as bs = some k->xN A s (decide (as.length < bs.length)) (us.zip vs) k
 | [],[],A,s,us,vs,k,ra,rb,hu,h=>by
   unfold RdL at ra rb;subst ra;subst rb;unfold dX at h;cases h
   rfl
 | [],y::ys,A,s,us,vs,k,ra,rb,hu,h=>by
   unfold RdL at ra;subst ra;unfold dX at h;cases h;show true = decide _
   simp
 | x::xs,[],A,s,us,vs,k,ra,rb,hu,h=>by
   unfold RdL at rb;subst rb;unfold dX at h;cases h;rw [nY];show false = decide _
   simp
 | x::xs,y::ys,A,s,us,vs,k,ra,rb,hu,h=>by
   unfold RdL at ra rb;obtain ⟨u,us',rfl,ra1,ra2⟩:=ra;obtain ⟨v,vs',rfl,rb1,rb2⟩:=rb;unfold dX at h;unfold bZ at hu;refine ⟨eqD x y,rH x y A s u v ra1 rb1 (bV (aX (gh (mm1 _ _ _ _) _) (fW _ 1)) hu),?_⟩
   cases e:eqD x y with
   | true =>
     rw [e,if_pos rfl] at h;rw [if_pos rfl];have:=wY xs ys A s us' vs' k ra2 rb2 (bV (CQ (gh (mm2 _ _ _ _) _) 1) hu) h;have e1:decide ((x::xs).length < (y::ys).length) = decide (xs.length < ys.length):=by simp
     rw [e1]
     exact this
   | false =>
     rw [e,if_neg au] at h;rw [if_neg au];exact yP x y A s u v k ra1 rb1 (bV (CQ (gh (mm1 _ _ _ _) _) 1) hu) h
end
theorem Me (hu:X.A.units+200 < cLine):OpR X (compareOp .Lt) (fun x y H Q=>∃ F a b k,dE X.K H F a x/\dE X.K H F b y/\kS a b = some k/\Q (.bl k) H):=by
 intro pins s σ H x y v u Q I rx ry h;obtain ⟨F,a,b,k,ha,hb,e,q⟩:=h;unfold kS at e;split at e
 . exact yP a b X.A s v u k (fK I ha rx (by omega)) (fK I hb ry (by omega)) (by omega) e X.prog X.w X.xe _ ⟨.bl k,H,I,rfl,q⟩
 . cases e
theorem Ja:OpR X (binaryOp .Add) (fun x y H Q=>∃ l b xs zs,x = .ref l/\y = .ref b/\LsB X.K H l xs/\LsB X.K H b zs/\xs.length+zs.length<=sizeLine/\∀ p,H p = none->Q (.ref p) (upd H p (.lst (xs++zs)))):=by
 intro pins s σ H x y v u Q I rx ry h;obtain ⟨l,b,xs,zs,rfl,rfl,h1,h2,hz,q⟩:=h;cases rx;cases ry;obtain ⟨i1,n1,r1,e1,z1⟩:=h1.obj I;obtain ⟨i2,n2,r2,e2,z2⟩:=h2.obj I;have l1:=r1.length;have l2:=r2.length;refine PySem.P.add_list e1 e2 ?_ (by simp only [aH];lia);rw [show i1.toArray++i2.toArray = (i1++i2).toArray by simp];exact ⟨.ref _,_,I.lnew (t':=s.toks) (r1.append r2) (by rw [ar];omega),rfl,q _ I.fresh⟩
end PP
end
section
namespace PP
open PySem PySem.W PyProof.Rows
noncomputable def inR {α:Type} (lt:Nat->Nat->Bool) (n:Nat):KasT α->Prop
 | .ret _=>True
 | .ask i j k=>i < n/\j < n/\inR lt n (k (lt i j))
theorem jD {α β:Type} {lt:Nat->Nat->Bool} {n:Nat} {f:α->KasT β}:∀ {t:KasT α},inR lt n t->inR lt n (f (ans lt t))->inR lt n (t.bind f)
 | .ret a,_,h=>h
 | .ask i j k,⟨h1,h2,h3⟩,h=>⟨h1,h2,jD h3 h⟩
theorem iS {α:Type} {lt:Nat->Nat->Bool} {n:Nat} {c:Prop} [Decidable c] {a b:KasT α} (h1:inR lt n a) (h2:inR lt n b):inR lt n (if c then a else b):=by
 by_cases h:c
 . rw [if_pos h];exact h1
 . rw [if_neg h];exact h2
noncomputable def All (p:Array Nat) (n:Nat):Prop:=0 < n/\∀ x∈p,x < n
theorem All.at {p:Array Nat} {n:Nat} (h:All p n) (k:Nat):p.getD k 0 < n:=by
 rw [getD_eq]
 cases e:p[k]? with
 | none=>exact h.1
 | some x=>exact h.2 x (ye e)
theorem All.perm {p q:Array Nat} {n:Nat} (h:All p n) (e:q.Perm p):All q n:=⟨h.1,fun x hx=>h.2 x (e.mem_iff.mp hx)⟩
section
variable {lt:Nat->Nat->Bool} {n:Nat}
theorem yW {p:Array Nat} (h:All p n):∀ f k,inR lt n (kas_asc p f k)
 | 0,k=>trivial
 | f+1,k=>⟨h.at _,h.at _,iS trivial (yW h f (k+1))⟩
theorem qm:∀ (f:Nat) (p:Array Nat) (k q:Nat),All p n->inR lt n (kas_desc f p k q)/\All (ans lt (kas_desc f p k q)).1 n
 | 0,p,k,q,h=>⟨trivial,h⟩
 | f+1,p,k,q,h=>by
   unfold kas_desc;have r1:=qm f (kas_rev p (k - (q+1)) k) (k+1) 0 (h.perm (eM _ _ _));have r2:=qm f p (k+1) 0 h;have r3:=qm f p (k+1) (q+1) h;refine ⟨⟨h.at _,h.at _,iS (iS r1.1 r2.1) ⟨h.at _,h.at _,iS trivial r3.1⟩⟩,?_⟩;rw [fE]
   cases lt (p.getD k 0) (p.getD (k - 1) 0) with
   | true =>
     rw [if_pos rfl];by_cases hq:q > 0
     . rw [if_pos hq];exact r1.2
     . rw [if_neg hq];exact r2.2
   | false =>
     rw [if_neg au,fE]
     cases lt (p.getD (k - 1) 0) (p.getD k 0) with
     | true=>rw [if_pos rfl];exact h
     | false=>rw [if_neg au];exact r3.2
theorem vS {p:Array Nat} (h:All p n) (a m:Nat):inR lt n (kas_tail3 a m p)/\All (ans lt (kas_tail3 a m p)).2 n:=by
 unfold kas_tail3;have h':=h.perm (eM p 0 a);refine ⟨jD (yW h' _ _) trivial,?_⟩;rw [dI,iG];exact h'
theorem pA {p:Array Nat} (h:All p n) (a m:Nat):inR lt n (kas_descPart a m p)/\All (ans lt (kas_descPart a m p)).2 n:=by
 unfold kas_descPart;obtain ⟨d1,d2⟩:=qm (lt:=lt) (m - (a+1)) p (a+1) 0 h;rw [dI];generalize hr:ans lt (kas_desc (m - (a+1)) p (a+1) 0) = r at d2;have t1:=vS (lt:=lt) (d2.perm (eM r.1 (r.2.1 - (r.2.2+1)) r.2.1)) r.2.1 m;have t2:=vS (lt:=lt) d2 r.2.1 m;refine ⟨jD d1 (by rw [hr];exact iS t1.1 t2.1),?_⟩;by_cases hq:r.2.2 > 0
 . rw [if_pos hq];exact t1.2
 . rw [if_neg hq];exact t2.2
theorem GG {p:Array Nat} (h:All p n) (m:Nat):inR lt n (kas_count m p)/\All (ans lt (kas_count m p)).2 n:=by
 unfold kas_count;rw [dI];have a1:=yW (lt:=lt) h (m - 1) 1;generalize hk:ans lt (kas_asc p (m - 1) 1) = k;have t1:=pA (lt:=lt) (h.perm (eM p 0 k)) k m;have t2:=pA (lt:=lt) h k m;refine ⟨jD a1 (by rw [hk];exact iS trivial (iS ⟨h.at _,h.at _,iS trivial t1.1⟩ t2.1)),?_⟩;by_cases e:(k == m) = true
 . rw [if_pos e];exact h
 . rw [if_neg e];by_cases h1:k > 1
   . rw [if_pos h1,fE]
     cases lt (p.getD 0 0) (p.getD (k - 1) 0) with
     | true=>rw [if_pos rfl];exact h
     | false=>rw [if_neg au];exact t1.2
   . rw [if_neg h1];exact t2.2
theorem qO {p:Array Nat} (h:All p n) (k:Nat):∀ f l r,inR lt n (kas_place p k f l r)
 | 0,l,r=>trivial
 | f+1,l,r=>by
   unfold kas_place;exact iS trivial ⟨h.at _,h.at _,iS (qO h k f _ _) (qO h k f _ _)⟩
theorem GQ:∀ (f:Nat) (p:Array Nat) (k:Nat),All p n->inR lt n (kas_bin f p k)
 | 0,p,k,h=>trivial
 | f+1,p,k,h=>by
   unfold kas_bin;exact jD (qO h k _ _ _) (GQ f _ _ (h.perm (JL _ _ _)))
theorem zC (hn:0 < n):inR lt n (kas_sort n):=by
 unfold kas_sort;have h:All (fO (bD n)) n:=⟨hn,fun x hx=>by simpa using hx⟩;obtain ⟨c1,c2⟩:=GG (lt:=lt) h n;exact jD c1 (iS (GQ _ _ _ c2) trivial)
end
theorem Af {α:Type} {prog:aR} {w:bf} {A:ba} {κ:oR} {vs:List af} {lt:Nat->Nat->Bool} {n:Nat} {s:ai} {Q:α->ai->Prop}
 (ha:∀ i j,i < n->j < n->∀ C:Bool->ai->Prop,C (lt i j) s->kas_ask prog w A κ vs i j C s):∀ t:KasT α,inR lt n t->Q (ans lt t) s->t.kasWp (kas_ask prog w A κ vs) Q s
 | .ret a,_,q=>q
 | .ask i j k,⟨h1,h2,h3⟩,q=>ha i j h1 h2 _ (Af ha (k (lt i j)) h3 q)
noncomputable def eE (lt:Nat->Nat->Bool) (vs:List af):List af:=if vs.length < 2 then vs else (ans lt (kas_sort vs.length)).toList.map fun i=>vs.getD i cn
section
variable {prog:aR} {w:bf} {A:ba} {E:af->ai->Prop} {s:ai}
theorem jZ {a:aw} {vs:List af} {n:Nat} {lt:Nat->Nat->Bool} {κ:oR} {P:PySem.Fin->ai->Prop} (ho:s.heap.get? a = some (seqObj "list" vs.toArray n)) (h64:vs.length < 64)
 (hlen:(eE lt vs).length = vs.length)
 (hk:2<=vs.length->∀ h':bK,(∀ b o,b≠a->s.heap.get? b = some o->h'.get? b = some o)->∀ C:oR->ai->Prop,C κ { s with heap:=h' }->wpAny (model prog w) A (keyKind' vs.toArray) C (fun _ _=>False) { s with heap:=h' })
 (ha:∀ h':bK,(∀ b o,b≠a->s.heap.get? b = some o->h'.get? b = some o)->∀ i j,i < vs.length->j < vs.length->∀ C:Bool->ai->Prop,C (lt i j) { s with heap:=h' }->kas_ask prog w A κ vs i j C { s with heap:=h' })
 (q:P (.done (.ret .none)) { s with heap:=sortedHeap s.heap a vs (eE lt vs).toArray }):wpAny (model prog w) A (eQ.«list.sort» ⟨[.ref a],[]⟩) P E s:=by
 have la:a < s.heap.objs.size:=az ho;obtain ⟨e1,o1⟩:∃ e1,(s.heap.update a (cq fun _=>(#[]:Array af))).get? a = some (seqObj "list" #[] e1):=⟨_,xO ho fun _ => #[]⟩;have o3:(((s.heap.update a (cq fun _=>(#[]:Array af))).push (seqObj "tuple" vs.toArray 0)).push (seqObj "list" #[] 0)).get? a = some (seqObj "list" #[] e1):=ag _ (ag _ o1)
 have keep:∀ b o,b≠a->s.heap.get? b = some o->(((s.heap.update a (cq fun _=>(#[]:Array af))).push (seqObj "tuple" vs.toArray 0)).push (seqObj "list" #[] 0)).get? b = some o:=fun b o hb e =>
  ag _ (ag _ ((eP _ _ (Ne.symm hb)).trans e))
 have sz:(eE lt vs).toArray.size<=sizeLine:=by rw [aH,hlen,bR];lia
 rw [list_sort_plain];refine ab (listItems_at ho rfl (ab (lz ho rfl ?_ (by rw [aH,bR];lia) (cu _))));refine ab (JJ o1 rfl (ab (wpAny_newTuple ?_ (by show vs.length<=_;rw [bR];lia))));refine ab (qp (bO ?_) (cu _));show wpAny (model prog w) A _ P E { s with heap:=((s.heap.update a (cq fun _=>(#[]:Array af))).push (seqObj "tuple" vs.toArray 0)).push (seqObj "list" #[] 0) };dsimp only;by_cases h2:vs.toArray.size < 2
 . have hv:vs.length < 2:=by simpa using h2
   have eo:eE lt vs = vs:=by unfold eE;rw [if_pos hv]
   rw [if_pos h2,if_pos h2];refine ab (ak ?_);rw [StateT.run_pure];refine ab (ak ?_);dsimp only;refine ab (JJ o3 rfl ?_)
   have em:(arrOf (SortSt.mk' general' (vs.toArray.zip vs.toArray) #[] 7 none)).map (·.2) = (eE lt vs).toArray:=by
    rw [eo];show (vs.toArray.zip vs.toArray).map (·.2) = vs.toArray;apply Array.ext
    . simp
    . intro i h1 h2;simp
   rw [em];refine ab (lz o3 rfl ?_ (cu _) (Hq sz));simp only [bne_self_eq_false,aO,if_false];exact ak q
 . have hv:¬ vs.length < 2:=by simpa using h2
   have eo:eE lt vs = (ans lt (kas_sort vs.length)).toList.map fun i=>vs.getD i cn:=by unfold eE;rw [if_neg hv]
   rw [if_neg h2,if_neg h2];refine ab (iV (hk (by lia) _ keep (fun κ' s'=>κ' = κ/\s' = { s with heap:=((s.heap.update a (cq fun _=>(#[]:Array af))).push (seqObj "tuple" vs.toArray 0)).push (seqObj "list" #[] 0) }) ⟨rfl,rfl⟩) (fun κ' s0 hk=>?_) fun _ _ x=>x.elim);obtain ⟨rfl,rfl⟩:=hk
   refine ab (iV (kat_run (Q:=fun st' s'=>s' = { s with heap:=((s.heap.update a (cq fun _=>(#[]:Array af))).push (seqObj "tuple" vs.toArray 0)).push (seqObj "list" #[] 0) }/\∃ p:Array Nat,arrOf st' = p.map (kas_item (vs.toArray.zip vs.toArray))/\failedOf st' = none/\p = ans lt (kas_sort vs.length))
    (G:=fun p s'=>s' = { s with heap:=((s.heap.update a (cq fun _=>(#[]:Array af))).push (seqObj "tuple" vs.toArray 0)).push (seqObj "list" #[] 0) }/\p = ans lt (kas_sort vs.length)) rfl (by lia) h64 (fun p st' s' a1 a2 a3 a4=>⟨a4.1,p,a2,a3,a4.2⟩)
    (Af (lt:=lt) (n:=vs.length) (fun i j h1 h2 C hc=>ha _ keep i j h1 h2 C hc) _ (zC (by lia)) ⟨rfl,rfl⟩)) ?_ fun _ _ e=>e)
   rintro ⟨⟨⟩,st'⟩ s' ⟨rfl,p,har,hf,rfl⟩;dsimp only;rw [kat_snds rfl har,<- eo];refine ab (JJ o3 rfl (ab (lz o3 rfl ?_ (cu _) (Hq sz))));rw [hf];simp only [bne_self_eq_false,aO,if_false];exact ak q
theorem BG {κ:oR} (hl:s.heap.IsList l vs.toArray) (h64:vs.length < 64) (hlen:(eE lt vs).length = vs.length)
 (hk:2<=vs.length->∀ (A':ba) (h':bK),A'.units<=A.units+2->(∀ b o,s.heap.get? b = some o->h'.get? b = some o)->∀ C:oR->ai->Prop,C κ { s with heap:=h' }->wpAny (model prog w) A' (keyKind' vs.toArray) C (fun _ _=>False) { s with heap:=h' })
 (ha:∀ (A':ba) (h':bK),A'.units<=A.units+2->(∀ b o,s.heap.get? b = some o->h'.get? b = some o)->∀ i j,i < vs.length->j < vs.length->∀ C:Bool->ai->Prop,C (lt i j) { s with heap:=h' }->kas_ask prog w A' κ vs i j C { s with heap:=h' })
 (q:Q (.ref (s.heap.objs.size+1)) { s with heap:=sortedAll s.heap vs (eE lt vs).toArray }):wpAny (model prog w) A (call (.builtin "sorted") [.ref l]) Q E s:=by
 refine jv JK He Hf (Hi _) ?_;unfold eQ.«sorted»;refine ab (m:=checkCount "sorted" 1 1 _) (ak ?_);refine ab (collect_list hl (ab (qp ?_ (by rw [bR];lia))) (by rw [bR];lia));have hs:((s.heap.push (seqObj "list" #[] 0)).update s.heap.objs.size (cq (·++vs.toArray))).objs.size = s.heap.objs.size+1:=by rw [Heap.size_update,size_push']
 have hL:(((s.heap.push (seqObj "list" #[] 0)).update s.heap.objs.size (cq (·++vs.toArray))).push (seqObj "list" vs.toArray 0)).get? (s.heap.objs.size+1) = some (seqObj "list" vs.toArray 0):=by
  rw [<- hs];exact aE _ rfl
 have keep:∀ b o,s.heap.get? b = some o->b≠s.heap.objs.size+1/\(((s.heap.push (seqObj "list" #[] 0)).update s.heap.objs.size (cq (·++vs.toArray))).push (seqObj "list" vs.toArray 0)).get? b = some o:=fun b o e=>by
  have hlt:b < s.heap.objs.size:=az e;exact ⟨aJ (bw hlt),ag _ ((eP _ _ (eY hlt)).trans (ag _ e))⟩
 show wpAny _ _ _ _ _ { s with heap:=((s.heap.push (seqObj "list" #[] 0)).update s.heap.objs.size (cq (·++vs.toArray))).push (seqObj "list" vs.toArray 0) };rw [hs];refine ab (bO (bM ze ⟨_,hL,rfl⟩ xP ?body (zh _)))
 case body =>
  refine jZ (lt:=lt) (κ:=κ) hL h64 hlen (fun h2 h' kp=>hk h2 _ h' ?_ fun b o e=>kp b o (keep b o e).1 (keep b o e).2) (fun h' kp=>ha _ h' ?_ fun b o e=>kp b o (keep b o e).1 (keep b o e).2) ?_
  . exact aA _
  . exact aA _
  . exact ⟨_,rfl,ak ⟨_,rfl,q⟩⟩
end
end PP
end
section
namespace PP
open PySem L2 PySem.SeqAt PyProof.Rows PySem.W
variable [Tbs]
section
variable {lt:Nat->Nat->Bool}
theorem lJ:∀ (f:Nat) (p:Array Nat) (k q:Nat),(ans lt (kas_desc f p k q)).1.Perm p
 | 0,p,k,q=>cM _
 | f+1,p,k,q=>by
   unfold kas_desc;rw [fE]
   cases lt (p.getD k 0) (p.getD (k - 1) 0) with
   | true =>
     rw [if_pos rfl];by_cases hq:q > 0
     . rw [if_pos hq];exact (lJ f _ _ _).trans (eM _ _ _)
     . rw [if_neg hq];exact lJ f _ _ _
   | false =>
     rw [if_neg au,fE]
     cases lt (p.getD (k - 1) 0) (p.getD k 0) with
     | true=>rw [if_pos rfl];exact cM _
     | false=>rw [if_neg au];exact lJ f _ _ _
theorem qF (a m:Nat) (p:Array Nat):(ans lt (kas_tail3 a m p)).2.Perm p:=by
 unfold kas_tail3;rw [dI,iG];exact eM _ _ _
theorem lW (a m:Nat) (p:Array Nat):(ans lt (kas_descPart a m p)).2.Perm p:=by
 unfold kas_descPart;rw [dI];have d:=lJ (lt:=lt) (m - (a+1)) p (a+1) 0;generalize ans lt (kas_desc (m - (a+1)) p (a+1) 0) = r at d;by_cases hq:r.2.2 > 0
 . rw [if_pos hq];exact ((qF _ _ _).trans (eM _ _ _)).trans d
 . rw [if_neg hq];exact (qF _ _ _).trans d
theorem yR (m:Nat) (p:Array Nat):(ans lt (kas_count m p)).2.Perm p:=by
 unfold kas_count;rw [dI];generalize ans lt (kas_asc p (m - 1) 1) = k;by_cases e:(k == m) = true
 . rw [if_pos e];exact cM _
 . rw [if_neg e];by_cases h1:k > 1
   . rw [if_pos h1,fE]
     cases lt (p.getD 0 0) (p.getD (k - 1) 0) with
     | true=>rw [if_pos rfl];exact cM _
     | false=>rw [if_neg au];exact (lW _ _ _).trans (eM _ _ _)
   . rw [if_neg h1];exact lW _ _ _
theorem xG:∀ (f:Nat) (p:Array Nat) (k:Nat),(ans lt (kas_bin f p k)).Perm p
 | 0,p,k=>cM _
 | f+1,p,k=>by
   unfold kas_bin;rw [dI];exact (xG f _ _).trans (JL _ _ _)
theorem BH (n:Nat):(ans lt (kas_sort n)).Perm (fO (bD n)):=by
 unfold kas_sort;rw [dI];have c:=yR (lt:=lt) n (fO (bD n));generalize ans lt (kas_count n (fO (bD n))) = r at c;by_cases h:r.1 < n
 . rw [if_pos h];exact (xG _ _ _).trans c
 . rw [if_neg h];exact c
theorem fy (n:Nat):(ans lt (kas_sort n)).toList.Perm (bD n):=by
 have:=(BH (lt:=lt) n).toList;simpa using this
end
mutual
theorem RdV.keep (k:∀ b o,h.get? b = some o->h'.get? b = some o):∀ (d:D) (u:af),RdV h d u->RdV h' d u
 | .non,u,r=>by unfold RdV at r ⊢;exact r
 | .bl _,u,r=>by unfold RdV at r ⊢;exact r
 | .int _,u,r=>by unfold RdV at r ⊢;exact r
 | .str _,u,r=>by unfold RdV at r ⊢;exact r
 | .lst ds,u,r=>by
   unfold RdV at r ⊢;obtain ⟨a,its,e,⟨o,h1,h2⟩,h3⟩:=r
   exact ⟨a,its,e,⟨o,k _ _ h1,h2⟩,RdL.keep k ds _ h3⟩
 | .tup ds,u,r=>by
   unfold RdV at r ⊢;obtain ⟨a,its,e,⟨o,h1,h2⟩,h3⟩:=r
   exact ⟨a,its,e,⟨o,k _ _ h1,h2⟩,RdL.keep k ds _ h3⟩
 | .fn _ _,u,r=>by unfold RdV at r;exact r.elim
theorem RdL.keep (k:∀ b o,h.get? b = some o->h'.get? b = some o):∀ (ds:List D) (us:List af),RdL h ds us->RdL h' ds us
 | [],us,r=>by unfold RdL at r ⊢;exact r
 | d::ds,us,r=>by
   unfold RdL at r ⊢;obtain ⟨w,ws,e,r1,r2⟩:=r;exact ⟨w,ws,e,RdV.keep k d w r1,RdL.keep k ds ws r2⟩
end
theorem RdL.nth:∀ {ds:List D} {us:List af} (i:Nat),RdL h ds us->i < ds.length->RdV h (ds.getD i .non) (us.getD i cn)
 | [],us,i,r,hi=>by simp at hi
 | d::ds,us,i,r,hi=>by
   unfold RdL at r;obtain ⟨w,ws,rfl,r1,r2⟩:=r
   cases i with
   | zero=>exact r1
   | succ i=>exact RdL.nth i r2 (by simpa using hi)
section
variable {prog:aR} {w:bf} {s:ai}
theorem JU {A:ba} {E:af->ai->Prop} {a b:D} {u v:af} {k:Bool} {Q:Bool->ai->Prop} (ra:RdV s.heap a u) (rb:RdV s.heap b v) (hk:(bH a = 1/\bH b = 1)\/(bH a = 2/\bH b = 2)) (h:ltD a b = some k) (q:Q k s):wpAny (model prog w) A (oneLt' true u v) Q E s:=by
 rcases hk with ⟨h1,h2⟩ | ⟨h1,h2⟩
 . cases a<;>first | (simp [bH] at h1;done) | skip
   . cases b<;>first | (simp [bH] at h2;done) | skip
     . unfold RdV at ra rb;obtain ⟨t,rfl⟩:=ra;obtain ⟨t',rfl⟩:=rb;unfold ltD at h;cases h;exact oneLt_str q
     . rename_i l;cases l with
       | nil=>simp [bH] at h2
       | cons x r=>cases x<;>simp [bH] at h2
   . rename_i l;cases l with
     | nil=>simp [bH] at h1
     | cons x r=>cases x<;>simp [bH] at h1
 . cases a<;>first | (simp [bH] at h1;done) | skip
   . cases b<;>first | (simp [bH] at h2;done) | skip
     . unfold RdV at ra rb;obtain ⟨t,rfl⟩:=ra;obtain ⟨t',rfl⟩:=rb;unfold ltD at h;cases h;exact oneLt_int q
     . rename_i l;cases l with
       | nil=>simp [bH] at h2
       | cons x r=>cases x<;>simp [bH] at h2
   . rename_i l;cases l with
     | nil=>simp [bH] at h1
     | cons x r=>cases x<;>simp [bH] at h1
theorem wZ:∀ (as bs:List D) (us vs:List af) (i:Nat),RdL s.heap as us->RdL s.heap bs vs->A.units+min (bZ as) (bZ bs)+1 < cLine->dX as bs = some k->fin = decide (as.length < bs.length) ->
 (i = 0->∀ x y,as.head? = some x->bs.head? = some y->(bH x = 1/\bH y = 1)\/(bH x = 2/\bH y = 2))->Q k s->KatLex prog w A true fin Q (us.zip vs) i s
 | [],[],us,vs,i,ra,rb,hu,h,hf,hh,q=>by
   unfold RdL at ra rb;subst ra;subst rb;unfold dX at h;cases h;subst hf
   exact kat_nil q
 | [],y::ys,us,vs,i,ra,rb,hu,h,hf,hh,q=>by
   unfold RdL at ra;subst ra;unfold dX at h;cases h;have:fin = true:=by rw [hf];simp
   subst this
   exact kat_nil q
 | x::xs,[],us,vs,i,ra,rb,hu,h,hf,hh,q=>by
   unfold RdL at rb;subst rb;unfold dX at h;cases h;have:fin = false:=by rw [hf];simp
   subst this;rw [nY]
   exact kat_nil q
 | x::xs,y::ys,us,vs,i,ra,rb,hu,h,hf,hh,q=>by
   unfold RdL at ra rb;obtain ⟨u,us',rfl,ra1,ra2⟩:=ra;obtain ⟨v,vs',rfl,rb1,rb2⟩:=rb;unfold dX at h;unfold bZ at hu;rw [cX];refine kat_cons (rH x y A s u v ra1 rb1 (by lia) prog w _ _ ?_)
   cases e:eqD x y with
   | true =>
     rw [e,if_pos rfl] at h
     exact kat_yes (wZ xs ys us' vs' (i+1) ra2 rb2 (by lia) h (by rw [hf];simp) (fun z=>by lia) q)
   | false =>
     rw [e,if_neg au] at h;refine kat_no ?_;by_cases hi:i = 0
     . subst hi;exact JU ra1 rb1 (hh rfl x y rfl rfl) h q
     . have e0:(true && i == 0) = false:=by simp [hi]
       rw [e0];exact kat_one u v (yP x y A s u v k ra1 rb1 (by lia) h prog w _ _ q)
end
end PP
end
section
namespace PP
open PySem
structure Ck where
 N:List Str
 sc:en
 fns:List (Str × List Str)
 gn:List Str
noncomputable def Bx (sc:en) (x:Str):Bool:=match sc.names.lookup x with
 | some .local=>true | some .cell=>true | some .free=>true | _=>false
noncomputable def MA (sc:en) (x:Str):Bool:=match sc.names.lookup x with
 | some .local=>true | some .cell=>true | _=>false
noncomputable def glB (sc:en) (x:Str):Bool:=match sc.names.lookup x with
 | some .globalImplicit=>true | _=>false
noncomputable def Fy (x:Str):Bool:=!(x == ("__debug__":Str)) && !(x == ("__classdict__":Str)) && !(x == ("__name__":Str))
noncomputable def fk (c:Ck) (i:Nat) (x:Str):Bool:=decide (c.N[i]? = some x) && Bx c.sc x && Fy x
noncomputable def jW (c:Ck) (i:Nat) (x:Str):Bool:=decide (c.N[i]? = some x) && MA c.sc x && Fy x
noncomputable def eU (c:Ck) (x:Str):Bool:=glB c.sc x && Fy x
noncomputable def Ow:Op->zj->Bool
 | .add,.Add=>true | .sub,.Sub=>true | .mul,.Mult=>true | .mod,.Mod=>true | .fdiv,.FloorDiv=>true
 | _,_=>false
noncomputable def AD:Cop->CmpOp->Bool
 | .lt,.Lt=>true | .le,.LtE=>true | .gt,.Gt=>true | .eq,.Eq=>true | .ne,.NotEq=>true | .isin,.In=>true | .notin,.NotIn=>true
 | _,_=>false
noncomputable def tL:Blt->Str
 | .len=>"len" | .max=>"max" | .toInt=>"int" | .toStr=>"str" | .toTup=>"tuple" | .toLst=>"list" | .any=>"any" | .sorted=>"sorted"
 | .isBool=>"isinstance"
noncomputable def jG:List Str:=["len","min","max","int","str","tuple","list","dict","sum","isinstance","bool","range","sorted","set","zip","any","divmod","reversed","all"]
noncomputable def ie:Es->Bool
 | .nil=>true
 | .cons e es=>!bS e && ie es
noncomputable def oy:Es->Bool
 | .nil=>true
 | .cons e es=>(!bS e || npS es) && oy es
noncomputable def xm:Es->Nat
 | .nil=>0
 | .cons _ es=>xm es+1
noncomputable def st (x:aI):Str:=match x with
 | .Name y _=>y
 | .Attribute _ m _=>m
 | _=>""
noncomputable def cst (x:aI):Const:=match x with
 | .Constant v _ _=>v
 | _=>.none
noncomputable def e1 (x:aI):aI:=match x with
 | .BinOp y _ _ _=>y
 | .Compare y _ _ _=>y
 | .UnaryOp _ y _=>y
 | .IfExp t _ _ _=>t
 | .Subscript y _ _=>y
 | .Call f _ _ _=>f
 | .Attribute y _ _=>y
 | .ListComp e _ _ _=>e
 | .SetComp e _ _ _=>e
 | _=>x
noncomputable def bop (x:aI):zj:=match x with
 | .BinOp _ o _ _=>o
 | _=>.Add
noncomputable def e2 (x:aI):aI:=match x with
 | .BinOp _ _ z _=>z
 | .IfExp _ y _ _=>y
 | .Subscript _ z _=>z
 | _=>x
noncomputable def Qe (x:aI):List CmpOp:=match x with
 | .Compare _ os _ _=>os
 | _=>[]
noncomputable def ls (x:aI):List aI:=match x with
 | .Compare _ _ zs _=>zs
 | .BoolOp _ vs _=>vs
 | .Tuple es _ _=>es
 | .List es _=>es
 | .Call _ as _ _=>as
 | _=>[]
noncomputable def Qf (x:aI):PySem.BoolOp:=match x with
 | .BoolOp o _ _=>o
 | _=>.And
noncomputable def po (x:aI):Pos:=match x with
 | .Name _ p=>p
 | .BoolOp _ _ p=>p
 | .Call _ _ _ p=>p
 | .Attribute _ _ p=>p
 | .ListComp _ _ _ p=>p
 | _=>⟨0,0,0,0⟩
noncomputable def uop (x:aI):PySem.UnaryOp:=match x with
 | .UnaryOp o _ _=>o
 | _=>.Not
noncomputable def e3 (x:aI):aI:=match x with
 | .IfExp _ _ z _=>z
 | _=>x
noncomputable def o1 (x:aI):Option aI:=match x with
 | .Slice l _ _ _=>l
 | _=>none
noncomputable def o2 (x:aI):Option aI:=match x with
 | .Slice _ h _ _=>h
 | _=>none
noncomputable def o3 (x:aI):Option aI:=match x with
 | .Slice _ _ s _=>s
 | _=>none
noncomputable def kws (x:aI):List jJ:=match x with
 | .Call _ _ ks _=>ks
 | _=>[]
noncomputable def gns (x:aI):List qu:=match x with
 | .ListComp _ gs _ _=>gs
 | .SetComp _ gs _ _=>gs
 | _=>[]
noncomputable def scp (x:aI) (d:en):en:=match x with
 | .ListComp _ _ sc _=>sc
 | .SetComp _ _ sc _=>sc
 | _=>d
noncomputable def jy:aI->Nat
 | .Name .. => 0
 | .Constant .. => 1
 | .BinOp .. => 2
 | .Compare .. => 3
 | .BoolOp .. => 4
 | .UnaryOp .. => 5
 | .IfExp .. => 6
 | .Tuple .. => 7
 | .List .. => 8
 | .Subscript .. => 9
 | .Slice .. => 10
 | .Call .. => 11
 | .Attribute .. => 12
 | .ListComp .. => 13
 | .SetComp .. => 14
 | .JoinedStr .. => 15
 | .FormattedValue .. => 16
 | _=>99
noncomputable def OI (x:aI):Nat->Prop
 | 0=>∃ y p,x = .Name y p
 | 1=>∃ v n p,x = .Constant v n p
 | 2=>∃ y o z p,x = .BinOp y o z p
 | 3=>∃ y os zs p,x = .Compare y os zs p
 | 4=>∃ o vs p,x = .BoolOp o vs p
 | 5=>∃ o y p,x = .UnaryOp o y p
 | 6=>∃ t y z p,x = .IfExp t y z p
 | 7=>∃ es n p,x = .Tuple es n p
 | 8=>∃ es p,x = .List es p
 | 9=>∃ y z p,x = .Subscript y z p
 | 10=>∃ l u s p,x = .Slice l u s p
 | 11=>∃ f as ks p,x = .Call f as ks p
 | 12=>∃ y m p,x = .Attribute y m p
 | 13=>∃ e gs sc p,x = .ListComp e gs sc p
 | 14=>∃ e gs sc p,x = .SetComp e gs sc p
 | 15=>∃ vs p,x = .JoinedStr vs p
 | 16=>∃ y cv sp p,x = .FormattedValue y cv sp p
 | _=>True
theorem Gg (x:aI):OI x (jy x):=by
 cases x<;>first | trivial | exact ⟨_,_,rfl⟩ | exact ⟨_,_,_,rfl⟩ | exact ⟨_,_,_,_,rfl⟩ | exact ⟨_,_,_,_,_,rfl⟩
theorem dW (h:((jy x == n) && b) = true):OI x n/\b = true:=by
 rw [aa] at h;exact ⟨eq_of_beq h.1▸Gg x,h.2⟩
@[irreducible] noncomputable def eS (x:aI) (k:Str->Bool):Bool:=(jy x == 0) && k (st x)
theorem cF (h:eS x k = true):∃ y p,x = .Name y p/\k y = true:=by
 unfold eS at h;obtain ⟨⟨y,p,rfl⟩,h⟩:=dW h;exact ⟨y,p,rfl,h⟩
@[irreducible] noncomputable def onC (x:aI) (k:Const->Bool):Bool:=(jy x == 1) && k (cst x)
theorem qW (h:onC x k = true):∃ v n p,x = .Constant v n p/\k v = true:=by
 unfold onC at h;obtain ⟨⟨v,n,p,rfl⟩,h⟩:=dW h;exact ⟨v,n,p,rfl,h⟩
@[irreducible] noncomputable def Ft (x:aI) (k:aI->zj->aI->Bool):Bool:=(jy x == 2) && k (e1 x) (bop x) (e2 x)
theorem wN (h:Ft x k = true):∃ y o z p,x = .BinOp y o z p/\k y o z = true:=by
 unfold Ft at h;obtain ⟨⟨y,o,z,p,rfl⟩,h⟩:=dW h;exact ⟨y,o,z,p,rfl,h⟩
@[irreducible] noncomputable def Fq (x:aI) (k:aI->List CmpOp->List aI->Bool):Bool:=(jy x == 3) && k (e1 x) (Qe x) (ls x)
theorem qV (h:Fq x k = true):∃ y os zs p,x = .Compare y os zs p/\k y os zs = true:=by
 unfold Fq at h;obtain ⟨⟨y,os,zs,p,rfl⟩,h⟩:=dW h;exact ⟨y,os,zs,p,rfl,h⟩
@[irreducible] noncomputable def Fs (x:aI) (k:PySem.BoolOp->List aI->Pos->Bool):Bool:=(jy x == 4) && k (Qf x) (ls x) (po x)
theorem mV (h:Fs x k = true):∃ o vs p,x = .BoolOp o vs p/\k o vs p = true:=by
 unfold Fs at h;obtain ⟨⟨o,vs,p,rfl⟩,h⟩:=dW h;exact ⟨o,vs,p,rfl,h⟩
@[irreducible] noncomputable def Fh (x:aI) (k:PySem.UnaryOp->aI->Bool):Bool:=(jy x == 5) && k (uop x) (e1 x)
theorem qc (h:Fh x k = true):∃ o y p,x = .UnaryOp o y p/\k o y = true:=by
 unfold Fh at h;obtain ⟨⟨o,y,p,rfl⟩,h⟩:=dW h;exact ⟨o,y,p,rfl,h⟩
@[irreducible] noncomputable def Mm (x:aI) (k:aI->aI->aI->Bool):Bool:=(jy x == 6) && k (e1 x) (e2 x) (e3 x)
theorem zV (h:Mm x k = true):∃ t y z p,x = .IfExp t y z p/\k t y z = true:=by
 unfold Mm at h;obtain ⟨⟨t,y,z,p,rfl⟩,h⟩:=dW h;exact ⟨t,y,z,p,rfl,h⟩
@[irreducible] noncomputable def sS (x:aI) (k:List aI->Bool):Bool:=(jy x == 7) && k (ls x)
theorem jA (h:sS x k = true):∃ es n p,x = .Tuple es n p/\k es = true:=by
 unfold sS at h;obtain ⟨⟨es,n,p,rfl⟩,h⟩:=dW h;exact ⟨es,n,p,rfl,h⟩
@[irreducible] noncomputable def Fn (x:aI) (k:List aI->Bool):Bool:=(jy x == 8) && k (ls x)
theorem qU (h:Fn x k = true):∃ es p,x = .List es p/\k es = true:=by
 unfold Fn at h;obtain ⟨⟨es,p,rfl⟩,h⟩:=dW h;exact ⟨es,p,rfl,h⟩
@[irreducible] noncomputable def sT (x:aI) (k:aI->aI->Bool):Bool:=(jy x == 9) && k (e1 x) (e2 x)
theorem kP (h:sT x k = true):∃ y z p,x = .Subscript y z p/\k y z = true:=by
 unfold sT at h;obtain ⟨⟨y,z,p,rfl⟩,h⟩:=dW h;exact ⟨y,z,p,rfl,h⟩
@[irreducible] noncomputable def Mj (x:aI) (k:Option aI->Option aI->Option aI->Bool):Bool:=(jy x == 10) && k (o1 x) (o2 x) (o3 x)
theorem zU (h:Mj x k = true):∃ l u s p,x = .Slice l u s p/\k l u s = true:=by
 unfold Mj at h;obtain ⟨⟨l,u,s,p,rfl⟩,h⟩:=dW h;exact ⟨l,u,s,p,rfl,h⟩
@[irreducible] noncomputable def uG (x:aI) (k:aI->List aI->List jJ->Pos->Bool):Bool:=(jy x == 11) && k (e1 x) (ls x) (kws x) (po x)
theorem sU (h:uG x k = true):∃ f as ks p,x = .Call f as ks p/\k f as ks p = true:=by
 unfold uG at h;obtain ⟨⟨f,as,ks,p,rfl⟩,h⟩:=dW h;exact ⟨f,as,ks,p,rfl,h⟩
@[irreducible] noncomputable def Mq (x:aI) (k:aI->Str->Pos->Bool):Bool:=(jy x == 12) && k (e1 x) (st x) (po x)
theorem Jf (h:Mq x k = true):∃ y m p,x = .Attribute y m p/\k y m p = true:=by
 unfold Mq at h;obtain ⟨⟨y,m,p,rfl⟩,h⟩:=dW h;exact ⟨y,m,p,rfl,h⟩
@[irreducible] noncomputable def Jd (x:aI) (k:aI->List qu->en->Pos->Bool):Bool:=(jy x == 13) && k (e1 x) (gns x) (scp x default) (po x)
theorem qd (h:Jd x k = true):∃ e gs sc p,x = .ListComp e gs sc p/\k e gs sc p = true:=by
 unfold Jd at h;obtain ⟨⟨e,gs,sc,p,rfl⟩,h⟩:=dW h;exact ⟨e,gs,sc,p,rfl,h⟩
@[irreducible] noncomputable def Ml (x:aI) (k:aI->List qu->en->Bool):Bool:=(jy x == 14) && k (e1 x) (gns x) (scp x default)
theorem Jc (h:Ml x k = true):∃ e gs sc p,x = .SetComp e gs sc p/\k e gs sc = true:=by
 unfold Ml at h;obtain ⟨⟨e,gs,sc,p,rfl⟩,h⟩:=dW h;exact ⟨e,gs,sc,p,rfl,h⟩
noncomputable def sls (x:de):List aI:=match x with
 | .Assign ts _ _=>ts
 | _=>[]
noncomputable def s1 (x:de):aI:=match x with
 | .Assign _ y _=>y
 | .AugAssign t _ _ _=>t
 | .If t _ _ _=>t
 | .For t _ _ _ _=>t
 | .While t _ _ _=>t
 | .Expr y _=>y
 | _=>.Constant .none 0 ⟨0,0,0,0⟩
noncomputable def s2 (x:de):aI:=match x with
 | .AugAssign _ _ y _=>y
 | .For _ it _ _ _=>it
 | _=>.Constant .none 0 ⟨0,0,0,0⟩
noncomputable def so (x:de):Option aI:=match x with
 | .Return y _=>y
 | _=>none
noncomputable def sb (x:de):List de:=match x with
 | .If _ y _ _=>y
 | .For _ _ y _ _=>y
 | .While _ y _ _=>y
 | _=>[]
noncomputable def sc2 (x:de):List de:=match x with
 | .If _ _ z _=>z
 | .For _ _ _ z _=>z
 | .While _ _ z _=>z
 | _=>[]
noncomputable def yt:de->Nat
 | .Assign .. => 0
 | .AugAssign .. => 1
 | .Return .. => 2
 | .If .. => 3
 | .For .. => 4
 | .While .. => 5
 | .Expr .. => 6
 | _=>99
noncomputable def OH (x:de):Nat->Prop
 | 0=>∃ ts y p,x = .Assign ts y p
 | 1=>∃ t o y p,x = .AugAssign t o y p
 | 2=>∃ y p,x = .Return y p
 | 3=>∃ t y z p,x = .If t y z p
 | 4=>∃ t it y z p,x = .For t it y z p
 | 5=>∃ t y z p,x = .While t y z p
 | 6=>∃ y p,x = .Expr y p
 | _=>True
theorem Gf (x:de):OH x (yt x):=by
 cases x<;>first | trivial | exact ⟨_,_,rfl⟩ | exact ⟨_,_,_,rfl⟩ | exact ⟨_,_,_,_,rfl⟩ | exact ⟨_,_,_,_,_,rfl⟩
theorem ng (h:((yt x == n) && b) = true):OH x n/\b = true:=by
 rw [aa] at h;exact ⟨eq_of_beq h.1▸Gf x,h.2⟩
@[irreducible] noncomputable def sV (x:de) (k:List aI->aI->Bool):Bool:=(yt x == 0) && k (sls x) (s1 x)
theorem mW (h:sV x k = true):∃ ts y p,x = .Assign ts y p/\k ts y = true:=by
 unfold sV at h;obtain ⟨⟨ts,y,p,rfl⟩,h⟩:=ng h;exact ⟨ts,y,p,rfl,h⟩
@[irreducible] noncomputable def Fj (x:de) (k:Option aI->Bool):Bool:=(yt x == 2) && k (so x)
theorem Fi (h:Fj x k = true):∃ y p,x = .Return y p/\k y = true:=by
 unfold Fj at h;obtain ⟨⟨y,p,rfl⟩,h⟩:=ng h;exact ⟨y,p,rfl,h⟩
@[irreducible] noncomputable def Fp (x:de) (k:aI->List de->List de->Bool):Bool:=(yt x == 3) && k (s1 x) (sb x) (sc2 x)
theorem Fo (h:Fp x k = true):∃ t y z p,x = .If t y z p/\k t y z = true:=by
 unfold Fp at h;obtain ⟨⟨t,y,z,p,rfl⟩,h⟩:=ng h;exact ⟨t,y,z,p,rfl,h⟩
@[irreducible] noncomputable def zW (x:de) (k:aI->aI->List de->List de->Bool):Bool:=(yt x == 4) && k (s1 x) (s2 x) (sb x) (sc2 x)
theorem wM (h:zW x k = true):∃ t it y z p,x = .For t it y z p/\k t it y z = true:=by
 unfold zW at h;obtain ⟨⟨t,it,y,z,p,rfl⟩,h⟩:=ng h;exact ⟨t,it,y,z,p,rfl,h⟩
@[irreducible] noncomputable def Je (x:de) (k:aI->Bool):Bool:=(yt x == 6) && k (s1 x)
theorem zX (h:Je x k = true):∃ y p,x = .Expr y p/\k y = true:=by
 unfold Je at h;obtain ⟨⟨y,p,rfl⟩,h⟩:=ng h;exact ⟨y,p,rfl,h⟩
section
variable {α:Type} {xs:List α}
@[irreducible] noncomputable def on0 (xs:List α) (k:Bool):Bool:=match xs with
 | []=>k
 | _=>false
theorem fL (h:on0 xs k = true):xs = []/\k = true:=by
 unfold on0 at h;cases xs<;>first | exact ⟨rfl,h⟩ | cases h
@[irreducible] noncomputable def onS (xs:List α) (k:α->List α->Bool):Bool:=match xs with
 | y::ys=>k y ys
 | _=>false
theorem eJ (h:onS xs k = true):∃ y ys,xs = y::ys/\k y ys = true:=by
 unfold onS at h;cases xs<;>first | exact ⟨_,_,rfl,h⟩ | cases h
@[irreducible] noncomputable def on1 (xs:List α) (k:α->Bool):Bool:=onS xs fun y ys=>on0 ys (k y)
theorem eT (h:on1 xs k = true):∃ y,xs = [y]/\k y = true:=by
 unfold on1 at h;obtain ⟨y,ys,rfl,h1⟩:=eJ h;obtain ⟨rfl,h2⟩:=fL h1;exact ⟨y,rfl,h2⟩
@[irreducible] noncomputable def on2 (xs:List α) (k:α->α->Bool):Bool:=onS xs fun y ys=>on1 ys (k y)
theorem qX (h:on2 xs k = true):∃ y z,xs = [y,z]/\k y z = true:=by
 unfold on2 at h;obtain ⟨y,ys,rfl,h1⟩:=eJ h;obtain ⟨z,rfl,h2⟩:=eT h1;exact ⟨y,z,rfl,h2⟩
end
@[irreducible] noncomputable def onI (v:Const) (k:Int->Bool):Bool:=match v with
 | .int i=>k i
 | _=>false
theorem Mn (h:onI v k = true):∃ i,v = .int i/\k i = true:=by
 unfold onI at h;cases v<;>first | exact ⟨_,rfl,h⟩ | cases h
@[irreducible] noncomputable def onB (v:Const) (k:Bool->Bool):Bool:=match v with
 | .bool i=>k i
 | _=>false
theorem Mp (h:onB v k = true):∃ i,v = .bool i/\k i = true:=by
 unfold onB at h;cases v<;>first | exact ⟨_,rfl,h⟩ | cases h
@[irreducible] noncomputable def onT (v:Const) (k:Str->Bool):Bool:=match v with
 | .str i=>k i
 | _=>false
theorem Mi (h:onT v k = true):∃ i,v = .str i/\k i = true:=by
 unfold onT at h;cases v<;>first | exact ⟨_,rfl,h⟩ | cases h
noncomputable def Ka:Const->Bool
 | .none=>true
 | _=>false
theorem FZ (h:Ka v = true):v = .none:=by
 cases v<;>first | rfl | cases h
@[irreducible] noncomputable def pO (x:aI) (k:Str->List aI->Bool):Bool:=uG x fun f as ks _=>eS f fun n=>on0 ks (k n as)
theorem fZ (h:pO x k = true):∃ n np as p,x = .Call (.Name n np) as [] p/\k n as = true:=by
 unfold pO at h;obtain ⟨f,as,ks,p,rfl,h1⟩:=sU h;obtain ⟨n,np,rfl,h2⟩:=cF h1;obtain ⟨rfl,h3⟩:=fL h2;exact ⟨n,np,as,p,rfl,h3⟩
@[irreducible] noncomputable def onM (x:aI) (k:aI->Str->List aI->Bool):Bool:=uG x fun f as ks cp=>Mq f fun y m ap=>on0 ks (decide (ap.endLine = cp.line) && k y m as)
theorem uE (h:onM x k = true):∃ y m ap as cp,x = .Call (.Attribute y m ap) as [] cp/\ap.endLine = cp.line/\k y m as = true:=by
 unfold onM at h;obtain ⟨f,as,ks,cp,rfl,h1⟩:=sU h;obtain ⟨y,m,ap,rfl,h2⟩:=Jf h1;obtain ⟨rfl,h3⟩:=fL h2;rw [aa] at h3;exact ⟨y,m,ap,as,cp,rfl,of_decide_eq_true h3.1,h3.2⟩
@[irreducible] noncomputable def onG (g:qu) (k:aI->aI->List aI->Bool):Bool:=decide (g.is_async = 0) && k g.target g.iter g.ifs
theorem uF (h:onG g k = true):∃ t it il,g = ⟨t,it,il,0⟩/\k t it il = true:=by
 obtain ⟨t,it,il,a⟩:=g;unfold onG at h;rw [aa] at h;have e:a = 0:=of_decide_eq_true h.1;subst e;exact ⟨t,it,il,rfl,h.2⟩
noncomputable def uh:aI->Option (List Str)
 | .Name x _=>some [x]
 | .Tuple es _ _=>es.mapM fun | .Name x _=>some x | _=>none
 | _=>none
noncomputable def MW (c:Ck):List Nat->List aI->Bool
 | [],es=>on0 es true
 | i::is,es=>onS es fun e r=>eS e (fun x=>jW c i x) && MW c is r
noncomputable def oJ (c:Ck):Tg->aI->Bool
 | .nm i,x=>eS x fun y=>jW c i y
 | .tp is,x=>sS x fun es=>MW c is es
noncomputable def md (n:Nat):Tg->Bool
 | .nm i=>decide (n<=i)
 | .tp is=>is.all fun i=>decide (n<=i)
noncomputable def jC (ts:List Str) (N:List Str):List Str:=N.map fun y=>if ts.contains y then y++(" ":Str) else y
noncomputable def jT (c:Ck) (sc:en):Bool :=
 decide (sc.kind = .function) && sc.names.all fun p=>decide (p.2≠.cell) && (!decide (p.2 = .local) || decide (sc.names.lookup p.1 = some .local)) &&
  (!decide (p.2 = .free) || (match c.sc.names.lookup p.1 with | some .cell=>true | some .free=>true | _=>false))
noncomputable def namesOk (c:Ck) (sc:en) (Nc:List Str):Bool :=
 decide Nc.Nodup && (bD c.N.length).all fun i=>match Nc[i]? with
  | some x=>!Bx sc x || (decide (c.N[i]? = some x) && decide (sc.names.lookup x = some .free))
  | none=>false
noncomputable def JZ:PySem.UnaryOp->Bool
 | .Not=>true
 | _=>false
noncomputable def isNeg:PySem.UnaryOp->Bool
 | .USub=>true
 | _=>false
theorem xh (h:JZ o = true):o = .Not:=by cases o<;>first | rfl | cases h
theorem Ga (h:isNeg o = true):o = .USub:=by cases o<;>first | rfl | cases h
@[irreducible] noncomputable def onO (x:Option aI) (k:aI->Bool):Bool:=match x with
 | some y=>k y
 | none=>false
theorem Fl (h:onO x k = true):∃ y,x = some y/\k y = true:=by
 unfold onO at h
 cases x with
 | none=>cases h
 | some y=>exact ⟨y,rfl,h⟩
noncomputable def fq:aI->Bool
 | .Name .. | .Constant .. | .BinOp .. | .Compare .. | .BoolOp .. | .UnaryOp .. | .IfExp .. | .Tuple .. | .List .. | .Subscript .. | .Call .. | .ListComp .. => true
 | .JoinedStr .. => true
 | _=>false
variable [Tbs]
mutual
noncomputable def ckE (c:Ck):E->aI->Bool
 | .var i,x=>eS x fun y=>fk c i y
 | .pk i,x=>eS x fun y=>fk c i y
 | .glob g,x=>eS x fun y=>decide (c.gn[g]? = some y) && eU c y
 | .int i,x=>onC x fun v=>onI v fun j=>decide (i = j)
 | .bl b,x=>onC x fun v=>onB v fun j=>decide (b = j)
 | .non,x=>onC x Ka
 | .str t,x=>onC x fun v=>onT v fun u=>decide (t = u)
 | .bin op a b,x=>Ft x fun y o z=>Ow op o && ckE c a y && ckE c b z && (!bS a || np b)
 | .cmp op a b,x=>Fq x fun y os zs=>on1 os fun o=>on1 zs fun z=>AD op o && ckE c a y && ckE c b z && (!bS a || np b)
 | .and a b,x=>Fs x fun o vs p=>onS vs fun y r=>onS r fun z r2=>(match o with
   | .And=>true
   | .Or=>false) && ckE c a y && ckE c b (match r2 with
   | []=>z
   | _::_=>.BoolOp .And (z::r2) p) && !bS a && !bS b
 | .or a b,x=>Fs x fun o vs p=>onS vs fun y r=>onS r fun z r2=>(match o with
   | .And=>false
   | .Or=>true) && ckE c a y && ckE c b (match r2 with
   | []=>z
   | _::_=>.BoolOp .Or (z::r2) p) && !bS a && !bS b
 | .not a,x=>Fh x fun o y=>JZ o && ckE c a y && !bS a
 | .neg a,x=>Fh x fun o y=>isNeg o && ckE c a y && !bS a
 | .ssd a,x=>pO x fun f as=>on1 as fun w=>pO w fun g as=>on1 as fun y=>decide (f = ("sorted":Str)) && decide (g = ("set":Str)) && eU c f && eU c g && ckE c a y && !bS a
 | .ite k a b,x=>Mm x fun t y z=>ckE c k t && ckE c a y && ckE c b z && !bS a && !bS b
 | .tup es,x=>sS x fun xs=>gH c es xs && ie es
 | .lst es,x=>Fn x fun xs=>gH c es xs && ie es
 | .ix a b,x=>sT x fun y z=>ckE c a y && ckE c b z && (!bS a || np b) && !bS b
 | .sl a lo hi,x=>sT x fun y z=>Mj z fun l h s=>s.isNone && (ckE c a y && ckO c lo l && ckO c hi h && (!bS a || (npO lo && npO hi)))
 | .call f es,x=>pO x fun n xs=>(match c.fns[f]? with
    | some (m,ps)=>decide (m = n) && eU c n && decide (ps.length = xm es) && gH c es xs && ie es && !xs.isEmpty
    | none=>false)
 | .blt f es,x=>pO x fun n xs=>decide (tL f = n) && eU c n && (match tyName f with
    | some T=>on2 xs fun y w=>eS w fun t=>decide (t = (T:Str)) && eU c t && gH c es [y] && oy es
    | none=>!xs.isEmpty && gH c es xs && oy es)
 | .callv i es,x=>pO x fun n xs=>fk c i n && gH c es xs && ie es && !xs.isEmpty
 | .callF f es i,x=>pO x fun n xs=>(match c.fns[f]?,xs.getLast? with
    | some (m,ps),some y=>eS y fun y=>decide (m = n) && eU c n && decide (ps.length = xm es+1) && gH c es xs.dropLast && ie es && fk c i y && !xs.dropLast.isEmpty
    | _,_=>false)
 | .bad,x=>fq x
 | .isdig i,x=>onM x fun y m as=>eS y fun y=>on0 as (decide (m = ("isdigit":Str)) && fk c i y)
 | .comp k tg src ifs elt,x=>Jd x fun ex gs sc _=>on1 gs fun g=>onG g fun t it il=>(match uh t with
    | some ts=>decide (ts.length = k) && md c.N.length tg && jT c sc && namesOk c sc (jC ts c.N++ts) && oJ ⟨jC ts c.N++ts,sc,c.fns,c.gn⟩ tg t && ckI c src it &&
       ckG ⟨jC ts c.N++ts,sc,c.fns,c.gn⟩ ifs il && ckE ⟨jC ts c.N++ts,sc,c.fns,c.gn⟩ elt ex && !bS elt
    | none=>false)
 | .sset k tg1 src1 tg2 src2 ifs elt,x=>pO x fun f as=>on1 as fun w=>Ml w fun ex gs sc=>on2 gs fun g1 g2=>onG g1 fun t1 it1 il1=>onG g2 fun t2 it2 il=>on0 il1 (decide (f = ("sorted":Str)) && eU c f && (match uh t1,uh t2 with
    | some n1,some n2=>decide ((n1++n2).length = k) && md c.N.length tg1 && md c.N.length tg2 && jT c sc && namesOk c sc (jC (n1++n2) c.N++(n1++n2)) && oJ ⟨jC (n1++n2) c.N++(n1++n2),sc,c.fns,c.gn⟩ tg1 t1 && oJ ⟨jC (n1++n2) c.N++(n1++n2),sc,c.fns,c.gn⟩ tg2 t2 && ckI c src1 it1 &&
       ckI ⟨jC (n1++n2) c.N++(n1++n2),sc,c.fns,c.gn⟩ src2 it2 && ckG ⟨jC (n1++n2) c.N++(n1++n2),sc,c.fns,c.gn⟩ ifs il && ckE ⟨jC (n1++n2) c.N++(n1++n2),sc,c.fns,c.gn⟩ elt ex && !bS elt
    | _,_=>false))
noncomputable def gH (c:Ck):Es->List aI->Bool
 | .nil,xs=>on0 xs true
 | .cons e es,xs=>onS xs fun y ys=>ckE c e y && gH c es ys
noncomputable def ckO (c:Ck):Eo->Option aI->Bool
 | .no,x=>x.isNone
 | .yes e,x=>onO x fun y=>ckE c e y && !bS e
noncomputable def ckG (c:Ck):Eo->List aI->Bool
 | .no,x=>on0 x true
 | .yes e,x=>on1 x fun y=>ckE c e y
noncomputable def ckI (c:Ck):It->aI->Bool
 | .rng e,x=>pO x fun n xs=>on1 xs fun y=>decide (n = ("range":Str)) && eU c n && ckE c e y && !bS e
 | .sq e,x=>ckE c e x && !bS e
end
theorem eO (h:gH c es (y::ys) = true):∃ e es',es = .cons e es'/\ckE c e y = true/\gH c es' ys = true:=by
 cases es with
 | nil=>cases (fL h).1
 | cons e es =>
   obtain ⟨_,_,q,h'⟩:=eJ h;cases q;rw [aa] at h';exact ⟨e,es,rfl,h'⟩
theorem qD (h:oJ c tg t = true):(∃ x p,t = .Name x p)\/∃ es n p,t = .Tuple es n p:=by
 cases tg with
 | nm i=>obtain ⟨x,p,rfl,_⟩:=cF h;exact .inl ⟨x,p,rfl⟩
 | tp is=>obtain ⟨es,n,p,rfl,_⟩:=jA h;exact .inr ⟨es,n,p,rfl⟩
theorem hdN (h:eS x k = true):fq x = true:=by obtain ⟨_,_,rfl,_⟩:=cF h;rfl
theorem hdC (h:onC x k = true):fq x = true:=by obtain ⟨_,_,_,rfl,_⟩:=qW h;rfl
theorem hdF (h:pO x k = true):fq x = true:=by obtain ⟨_,_,_,_,rfl,_⟩:=fZ h;rfl
theorem hdM (h:onM x k = true):fq x = true:=by obtain ⟨_,_,_,_,_,rfl,_⟩:=uE h;rfl
theorem hdB (h:Fs x k = true):fq x = true:=by obtain ⟨_,_,_,rfl,_⟩:=mV h;rfl
theorem hdU (h:Fh x k = true):fq x = true:=by obtain ⟨_,_,_,rfl,_⟩:=qc h;rfl
theorem hdS (h:sT x k = true):fq x = true:=by obtain ⟨_,_,_,rfl,_⟩:=kP h;rfl
theorem cb (h:ckE c e x = true):fq x = true:=by
 cases e with
 | var i=>exact hdN h
 | pk i=>exact hdN h
 | glob g=>exact hdN h
 | int i=>exact hdC h
 | bl b=>exact hdC h
 | non=>exact hdC h
 | str t=>exact hdC h
 | bin op a b=>obtain ⟨_,_,_,_,rfl,_⟩:=wN h;rfl
 | cmp op a b=>obtain ⟨_,_,_,_,rfl,_⟩:=qV h;rfl
 | and a b=>exact hdB h
 | or a b=>exact hdB h
 | not a=>exact hdU h
 | neg a=>exact hdU h
 | ssd a=>exact hdF h
 | ite k a b=>obtain ⟨_,_,_,_,rfl,_⟩:=zV h;rfl
 | tup es=>obtain ⟨_,_,_,rfl,_⟩:=jA h;rfl
 | lst es=>obtain ⟨_,_,rfl,_⟩:=qU h;rfl
 | ix a b=>exact hdS h
 | sl a lo hi=>exact hdS h
 | call f es=>exact hdF h
 | blt f es=>exact hdF h
 | callv i es=>exact hdF h
 | callF f es i=>exact hdF h
 | bad=>exact h
 | isdig i=>exact hdM h
 | comp k tg src ifs elt=>obtain ⟨_,_,_,_,rfl,_⟩:=qd h;rfl
 | sset k tg1 src1 tg2 src2 ifs elt=>exact hdF h
theorem cG (h:fq x = true) (xs:List aI) (env:Env):starEach (x::xs) env = (false,eval x env)::starEach xs env:=by
 cases x<;>first | rfl | (exact absurd h au)
theorem Gn (h:fq x = true) (env:Env) (v:af):foldedSetIterable x env v = pure v:=by
 cases x<;>first | rfl | (exact absurd h au)
theorem tw (h:fq x = true) (op:CmpOp):behindInMarks op x = false:=by
 cases x<;>first | rfl | (exact absurd h au)
theorem Jw (h:fq x = true):L2.PlainIx x:=by
 intro o i;cases x<;>first | rfl | (exact absurd h au)
noncomputable def kW:aI->Bool
 | .ListComp .. => true
 | _=>false
theorem rD (h:fq x = true) (hc:kW x = false) (t:Option aI) (n:Nat) (env:Env):swapsWith x t n env = pure false:=by
 cases x<;>first | rfl | (exact absurd h au) | (exact absurd hc.symm au)
noncomputable def Ge:E->Bool
 | .comp .. => true
 | _=>false
@[irreducible] noncomputable def Fm (x:aI) (k:Str->Pos->Bool):Bool:=(jy x == 0) && k (st x) (po x)
theorem uD (h:Fm x k = true):∃ y p,x = .Name y p/\k y p = true:=by
 unfold Fm at h;obtain ⟨⟨y,p,rfl⟩,h⟩:=dW h;exact ⟨y,p,rfl,h⟩
noncomputable def newOk:E->Bool
 | .lst _=>true
 | .blt .toLst _=>true
 | .sl _ _ _=>true
 | _=>false
noncomputable def isNm (x:aI):Bool:=jy x == 0
noncomputable def Jt (x:aI):Bool:=jy x == 7
noncomputable def Oq (c:Ck) (i j:Nat) (es:Es) (t y:aI):Bool:=sS t fun us=>on2 us fun u v=>Fm u fun x px=>Fm v fun z pz=>sS y fun vs=>on2 vs fun a b =>
 decide (c.N[i]? = some x) && decide (c.N[j]? = some z) && decide (c.sc.names.lookup x = some .local) && decide (c.sc.names.lookup z = some .local) && decide (x≠z) && decide (px.line = pz.line) && gH c es [a,b] && ie es && !(foldedForSure 8 a && foldedForSure 8 b) && !(constantsAlone 8 a && constantsAlone 8 b)
noncomputable def JT (c:Ck) (tg:Tg) (e:E) (t y:aI):Bool:=match tg,e with
 | .tp [i,j],.tup es=>Oq c i j es t y
 | _,_=>false
mutual
noncomputable def ckS (c:Ck):S->de->Bool
 | .asg tg e,x=>sV x fun ts y=>on1 ts fun t=>oJ c tg t && ckE c e y && !bS e && !kW y && (isNm t || !Jt y || JT c tg e t y)
 | .new i e,x=>sV x fun ts y=>on1 ts fun t=>eS t fun t=>jW c i t && ckE c e y && !kW y && newOk e
 | .cmp own i e,x=>Ge e && sV x fun ts y=>on1 ts fun t=>Fm t fun t tp=>Jd y fun ex gs sc p=>jW c i t && ckE c e (.ListComp ex gs sc p) && ((decide (c.sc.names.lookup t = some .local) && decide (tp.line = p.line) && !(sc.names.any fun (n,k)=>n == t && (k == .local || k == .cell))) || (!own && decide (c.sc.names.lookup t = some .cell)))
 | .ret e,x=>Fj x fun y=>onO y fun y=>ckE c e y && !bS e
 | .retL _ _ _ _,_=>false
 | .ifs k a b,x=>Fp x fun t y z=>ckE c k t && xD c a y && xD c b z
 | .for_ tg src body,x=>zW x fun t it y z=>on0 z (oJ c tg t && ckI c src it && xD c body y)
 | .forZ tg es body,x=>zW x fun t it y z=>on0 z (pO it fun n xs=>on2 xs fun u v=>Jt t && decide (n = ("zip":Str)) && eU c n && oJ c tg t && gH c es [u,v] && ie es && xD c body y)
 | .append i e,x=>Je x fun w=>onM w fun y m as=>eS y fun y=>on1 as fun z=>decide (m = ("append":Str)) && fk c i y && ckE c e z && !bS e
 | .extend i e,x=>Je x fun w=>onM w fun y m as=>eS y fun y=>on1 as fun z=>decide (m = ("extend":Str)) && fk c i y && ckE c e z && !bS e
 | .setix i j e,x=>sV x fun ts y=>on1 ts fun t=>sT t fun w z=>eS w fun t=>fk c i t && ckE c e y && !bS e && !kW y && ckE c j z && !bS j
 | .bad,_=>true
noncomputable def xD (c:Ck):Ss->List de->Bool
 | .nil,xs=>on0 xs true
 | .cons s ss,xs=>onS xs fun y ys=>ckS c s y && xD c ss ys
end
end PP
end
section
namespace PP
open PySem L2 PyProof.Rows
variable [Tbs]
noncomputable def OU (K:PySem.W.Frag) (G:Gh) (F:aw->Prop) (σ:L2.St) (H:Hp) (m nP:Bool) (d:D) (δ':Loc) (Q:VK):Prop :=
 ∀ v H' F',Step G F H F' H'->(nP = true->Sim H H')->Ok K G F' σ H' δ'->RelM m K H' F' d v->Q v H'
noncomputable def tE (K:PySem.W.Frag) (cx:Cl) (e:E):TE:=fun σ H Q=>∃ G F δ d δ',Ok K G F σ H δ/\evE cx e δ = some (d,δ')/\OU K G F σ H (bS e) (np e) d δ' Q
noncomputable def tT (K:PySem.W.Frag) (cx:Cl) (e:E):TT:=fun σ H Q=>∃ G F δ b δ',Ok K G F σ H δ/\evT cx e δ = some (b,δ') /\
 ∀ H' F',Step G F H F' H'->(np e = true->Sim H H')->Ok K G F' σ H' δ'->Q b H'
noncomputable def nO (K:PySem.W.Frag) (H:Hp) (F:aw->Prop):Es->List D->List V->Prop
 | .nil,ds,vs=>ds = []/\vs = []
 | .cons e es,ds,vs=>∃ d ds' v vs',ds = d::ds'/\vs = v::vs'/\RelM (bS e) K H F d v/\nO K H F es ds' vs'
noncomputable def tEs (K:PySem.W.Frag) (cx:Cl) (es:Es):TA:=fun σ H Q=>∃ G F δ ds δ',Ok K G F σ H δ/\hZ cx es δ = some (ds,δ') /\
 ∀ vs H' F',Step G F H F' H'->(npS es = true->Sim H H')->Ok K G F' σ H' δ'->nO K H' F' es ds vs->Q vs H'
noncomputable def tO (K:PySem.W.Frag) (cx:Cl) (o:Eo):TO:=fun σ H Q=>∃ G F δ d δ',Ok K G F σ H δ/\evO cx o δ = some (d,δ') /\
 ∀ H' F',Step G F H F' H'->(npO o = true->Sim H H')->Ok K G F' σ H' δ'->Q d H'
noncomputable def tG (K:PySem.W.Frag) (cx:Cl) (o:Eo):TT:=fun σ H Q=>∃ G F δ b δ',Ok K G F σ H δ/\evG cx o δ = some (b,δ') /\
 ∀ H' F',Step G F H F' H'->(npO o = true->Sim H H')->Ok K G F' σ H' δ'->Q b H'
noncomputable def Wk (K:PySem.W.Frag) (G:Gh) (F:aw->Prop) (H:Hp) (J:L2.It) (ds:List D):Prop:=∀ F2 H2,Step G F H F2 H2->FD F2 H2->∀ i:Nat,
 (∀ d,ds[i]? = some d->J.go i H2/\∀ x H3,J.yld i H2 x H3->H3 = H2/\Rel K H2 F2 d x)/\(i = ds.length->J.stop i H2)
noncomputable def tI (K:PySem.W.Frag) (cx:Cl) (t:It):TI:=fun σ H R=>∃ G F δ ds δ',Ok K G F σ H δ/\evI cx t δ = some (ds,δ') /\
 ∀ J H' F',Step G F H F' H'->(npI t = true->Sim H H')->Ok K G F' σ H' δ'->(∀ G',Wk K G' F' H' J ds)->R J H'
section
variable {K:PySem.W.Frag} {cx:Cl} {X:Cx}
theorem PE.imp (h:PE X e t) (w:∀ σ H Q,t' σ H Q->t σ H Q):PE X e t':=fun pins s σ H Q I q=>h pins s σ H Q I (w σ H Q q)
theorem PT.imp (h:PT X e t) (w:∀ σ H Q,t' σ H Q->t σ H Q):PT X e t':=fun pins s σ H Q I q=>h pins s σ H Q I (w σ H Q q)
theorem two {a b:E} {σ:L2.St} {G:Gh} {H:Hp} {F:aw->Prop} {δ δ1 δ2:Loc} {x y:D} (ok:Ok K G F σ H δ) (ea:evE cx a δ = some (x,δ1)) (eb:evE cx b δ1 = some (y,δ2)) (pc:(!bS a || np b) = true) {R:V->V->Hp->Prop}
 (k:∀ v u H2 F2,Step G F H F2 H2->((np a && np b) = true->Sim H H2)->Ok K G F2 σ H2 δ2->RelM (bS a) K H2 F2 x v->RelM (bS b) K H2 F2 y u->R v u H2) :
 tE K cx a σ H fun v H1=>tE K cx b σ H1 fun u H2=>R v u H2:=by
 refine ⟨G,F,δ,x,δ1,ok,ea,fun v H1 F1 st1 sm1 ok1 r1=>⟨G,F1,δ1,y,δ2,ok1,eb,fun u H2 F2 st2 sm2 ok2 r2=>?_⟩⟩;refine k v u H2 F2 (st1.trans st2) (fun z=>?_) ok2 (RelM.step ok1.fd st2 (fun z=>sm2 (by rw [z] at pc;simpa using pc)) r1) r2;rw [aa] at z;exact (sm1 z.1).trans (sm2 z.2)
theorem dE.int {H:Hp} {F:aw->Prop} {i:Int} {v:V} (h:dE K H F (.int i) v):v = .int i:=by
 rcases h with h | ⟨_,_,_,e,_⟩
 . unfold Rel at h;exact h
 . cases e
theorem dE.bl (h:dE K H F (.bl i) v):v = .bl i:=by
 rcases h with h | ⟨_,_,_,e,_⟩
 . unfold Rel at h;exact h
 . cases e
theorem dE.str {H:Hp} {F:aw->Prop} {i:Str} {v:V} (h:dE K H F (.str i) v):v = .str i:=by
 rcases h with h | ⟨_,_,_,e,_⟩
 . unfold Rel at h;exact h
 . cases e
theorem dE.tup {H:Hp} {F:aw->Prop} {ds:List D} {v:V} (h:dE K H F (.tup ds) v):∃ a xs,v = .ref a/\SqT K H a xs/\aK K H F ds xs:=by
 rcases h with h | ⟨_,_,_,e,_⟩
 . unfold Rel at h;exact h
 . cases e
theorem dE.lst {H:Hp} {F:aw->Prop} {ds:List D} {v:V} (h:dE K H F (.lst ds) v):∃ a xs,v = .ref a/\LsB K H a xs/\aK K H F ds xs:=by
 rcases h with h | ⟨a,xs,_,e,e2,h1,h2⟩
 . unfold Rel at h;obtain ⟨a,xs,e,h1,h2⟩:=h;exact ⟨a,xs,e,h1.b,h2⟩
 . cases e;exact ⟨a,xs,e2,.inl (.inl h1),h2⟩
theorem dC {H:Hp} {F:aw->Prop} (i:Int):Rel K H F (.int i) (.int i):=by unfold Rel;rfl
theorem kO (i:Bool):Rel K H F (.bl i) (.bl i):=by unfold Rel;rfl
theorem iA {H:Hp} {F:aw->Prop} (i:Str):Rel K H F (.str i) (.str i):=by unfold Rel;rfl
theorem zJ:Rel K H F .non .non:=by unfold Rel;rfl
theorem Ok.laid {σ:L2.St} {G:Gh} {H:Hp} {F:aw->Prop} {δ:Loc} {p:aw} (ok:Ok K G F σ H δ) (hp:H p = none) (o:HO):Ok K G F σ (upd H p o) δ/\Step G F H F (upd H p o)/\Sim H (upd H p o)/\¬ F p :=
 ⟨ok.same' (cg hp o),Step.of_same (cg hp o),.of (cg hp o),ok.fd.none hp⟩
theorem jU {σ:L2.St} {G:Gh} {H:Hp} {F:aw->Prop} {δ:Loc} {p:aw} {ds:List D} {xs:List V} (ok:Ok K G F σ H δ) (hp:H p = none) (r:aK K H F ds xs):Rel K (upd H p (.tup xs)) F (.tup ds) (.ref p):=by
 unfold Rel;exact ⟨p,xs,rfl,SqT.of bN,aK.step (G:=G) ok.fd (Step.of_same (cg hp _)) ds xs r⟩
theorem mf {σ:L2.St} {G:Gh} {H:Hp} {F:aw->Prop} {δ:Loc} {p:aw} {ds:List D} {xs:List V} (ok:Ok K G F σ H δ) (hp:H p = none) (r:aK K H F ds xs):Rel K (upd H p (.lst xs)) F (.lst ds) (.ref p):=by
 unfold Rel;exact ⟨p,xs,rfl,.inl ⟨.inl bN,(ok.laid hp (.lst xs)).2.2.2⟩,aK.step (G:=G) ok.fd (Step.of_same (cg hp _)) ds xs r⟩
theorem Im {a b:E} {y z:aI} {op:Op} {o:zj} {pos:Pos} (ho:Ow op o = true) (pc:(!bS a || np b) = true) (ha:PE X y (tE X.K cx a)) (hb:PE X z (tE X.K cx b)):PE X (.BinOp y o z pos) (tE X.K cx (.bin op a b)):=by
 intro pins s σ H Q I h;obtain ⟨G,F,δ,d,δ',ok,ev,post⟩:=h;simp only [evE,ah,ae] at ev;obtain ⟨⟨x,δ1⟩,ea,⟨y',δ2⟩,eb,d',hd,e⟩:=ev;cases e;dsimp only at eb hd post;have fin:∀ v H2 F2,Step G F H F2 H2->((np a && np b) = true->Sim H H2)->Ok X.K G F2 σ H2 δ2->Rel X.K H2 F2 d v->Q v H2:=fun v H2 F2 st sm ok2 r=>post v H2 F2 st sm ok2 r;cases op<;>cases o<;>first | (exact absurd ho au) | skip
 . refine wJ (Mh.or (yH.or (IZ.or (Jb.or Ja)))) ha hb pins s σ H Q I (two ok ea eb pc fun v u H2 F2 st sm ok2 r1 r2=>?_);change Nn x y' = some d at hd;unfold Nn at hd;split at hd
   . cases hd;have e1:=r1.b.int;have e2:=r2.b.int;subst e1;subst e2;exact .inl ⟨_,_,rfl,rfl,fin _ _ _ st sm ok2 (dC _)⟩
   . split at hd
     . cases hd;have e1:=r1.b.str;have e2:=r2.b.str;subst e1;subst e2;exact .inr (.inl ⟨_,_,rfl,rfl,‹_›,fin _ _ _ st sm ok2 (iA _)⟩)
     . cases hd
   . cases hd;obtain ⟨p1,xs1,e1,s1,l1⟩:=r1.b.tup;obtain ⟨p2,xs2,e2,s2,l2⟩:=r2.b.tup;subst e1;subst e2;unfold aK at l1;subst l1;refine .inr (.inr (.inr (.inl ⟨p1,p2,xs2,rfl,rfl,s1,s2,fin _ _ _ st sm ok2 ?_⟩)));unfold Rel;exact ⟨p2,xs2,rfl,s2,l2⟩
   . split at hd
     . rename_i q;cases hd;obtain ⟨p1,xs1,e1,s1,l1⟩:=r1.b.tup;obtain ⟨p2,xs2,e2,s2,l2⟩:=r2.b.tup;subst e1;subst e2;refine .inr (.inr (.inl ⟨p1,p2,xs1,xs2,rfl,rfl,s1,s2,fun z=>?_,by rw [l1.length,l2.length];exact q,fun z=>?_,fun _ p hp=>?_⟩))
       . have:=l1.length;rw [z] at this;cases this
       . refine fin _ _ _ st sm ok2 ?_;have e:∀ {ys:List D},aK X.K H2 F2 ys xs2->ys = []:=fun {ys} r=>by have:=r.length;rw [z] at this;exact gF.mp this.symm
         have:=e l2;subst this;rw [bX];unfold Rel;exact ⟨p1,xs1,rfl,s1,l1⟩
       . obtain ⟨o1,o2,o3,o4⟩:=ok2.laid hp (.tup (xs1++xs2));exact fin _ _ _ (st.trans o2) (fun z=>(sm z).trans o3) o1 (jU ok2 hp (l1.append l2))
     . cases hd
   . split at hd
     . rename_i q;cases hd;obtain ⟨p1,xs1,e1,s1,l1⟩:=r1.b.lst;obtain ⟨p2,xs2,e2,s2,l2⟩:=r2.b.lst;subst e1;subst e2;refine .inr (.inr (.inr (.inr ⟨p1,p2,xs1,xs2,rfl,rfl,s1,s2,by rw [l1.length,l2.length];exact q,fun p hp=>?_⟩)));obtain ⟨o1,o2,o3,o4⟩:=ok2.laid hp (.lst (xs1++xs2));exact fin _ _ _ (st.trans o2) (fun z=>(sm z).trans o3) o1 (mf ok2 hp (l1.append l2))
     . cases hd
   . cases hd
 . refine wJ Mb ha hb pins s σ H Q I (two ok ea eb pc fun v u H2 F2 st sm ok2 r1 r2=>?_);change Ld x y' = some d at hd;unfold Ld at hd;split at hd<;>first | (cases hd;done) | skip
   cases hd;have e1:=r1.b.int;have e2:=r2.b.int;subst e1;subst e2;exact ⟨_,_,rfl,rfl,fin _ _ _ st sm ok2 (dC _)⟩
 . refine wJ (IY.or IX) ha hb pins s σ H Q I (two ok ea eb pc fun v u H2 F2 st sm ok2 r1 r2=>?_);change Mx x y' = some d at hd;unfold Mx at hd;split at hd<;>first | (cases hd;done) | skip
   . split at hd
     . rename_i q;cases hd;have e1:=r1.b.int;have e2:=r2.b.int;subst e1;subst e2;refine .inl ⟨_,_,rfl,rfl,?_,fin _ _ _ st sm ok2 (dC _)⟩;exact Jj q
     . cases hd
   . split at hd
     . rename_i q;cases hd;have e1:=r1.b.str;have e2:=r2.b.int;subst e1;subst e2;exact .inr ⟨_,_,rfl,rfl,q,fin _ _ _ st sm ok2 (iA _)⟩
     . cases hd
 . refine wJ Md ha hb pins s σ H Q I (two ok ea eb pc fun v u H2 F2 st sm ok2 r1 r2=>?_);change My x y' = some d at hd;unfold My at hd;split at hd<;>first | (cases hd;done) | skip
   split at hd
   . rename_i q;cases hd;have e1:=r1.b.int;have e2:=r2.b.int;subst e1;subst e2;exact ⟨_,_,rfl,rfl,q,fin _ _ _ st sm ok2 (dC _)⟩
   . cases hd
 . refine wJ Fg ha hb pins s σ H Q I (two ok ea eb pc fun v u H2 F2 st sm ok2 r1 r2=>?_);change Gy x y' = some d at hd;unfold Gy at hd;split at hd<;>first | (cases hd;done) | skip
   split at hd
   . rename_i q;cases hd;have e1:=r1.b.int;have e2:=r2.b.int;subst e1;subst e2;exact ⟨_,_,rfl,rfl,q,fin _ _ _ st sm ok2 (dC _)⟩
   . cases hd
end
end PP
end
section
namespace PP
open PySem L2 PySem.SeqAt PyProof.Rows PySem.W
variable [Tbs]
theorem dt (h:sortable ds = true):ds.length < 64/\(∀ x∈ds,bH x≠0/\bH x = bH (ds.getD 0 .non))/\∀ x∈ds,∀ y∈ds,∃ k,kS x y = some k:=by
 unfold sortable at h;simp only [aa,bx,decide_eq_true_eq] at h;obtain ⟨⟨h1,h2⟩,h3⟩:=h;refine ⟨h1,fun x hx=>?_,fun x hx y hy=>gb.mp (h3 x hx y hy)⟩;have:=h2 x hx;exact ⟨by simpa using this.1,by simpa using this.2⟩
theorem oj (ds:List D):(dh ds).length = ds.length:=by
 unfold dh;by_cases h:ds.length < 2
 . rw [if_pos h]
 . rw [if_neg h,aj,(fy ds.length).length_eq,gL]
theorem nQ {K:PySem.W.Frag} {H:Hp} {F:aw->Prop} {ds:List D} {xs:List V} (r:aK K H F ds xs):∀ (is:List Nat),(∀ i∈is,i < ds.length)->aK K H F (is.map fun i=>ds.getD i .non) (is.map fun i=>xs.getD i .non)
 | [],_=>aK.nil
 | i::is,h=>by
   have hi:=h i ao;obtain ⟨v,hv,rv⟩:=r.get (i:=i) (d:=ds.getD i .non) (by simp [hi]);have e:xs.getD i .non = v:=by simp [hv]
   rw [aP,aP,e];exact aK.cons rv (nQ r is fun j hj=>h j (aq _ hj))
theorem nM (r:Vals xs us):∀ (is:List Nat),(∀ i∈is,i < xs.length)->Vals (is.map fun i=>xs.getD i .non) (is.map fun i=>us.getD i cn)
 | [],_=>.nil
 | i::is,h=>by
   have hi:=h i ao;obtain ⟨u,hu,ru⟩:=r.get (i:=i) (x:=xs.getD i .non) (by simp [hi]);have e:us.getD i cn = u:=by simp [hu]
   rw [aP,aP,e];exact .cons ru (nM r is fun j hj=>h j (aq _ hj))
theorem FV {M:Model} {A:ba} {E:af->ai->Prop} {s:ai} {ds:List D} {us:List af} (r:RdL s.heap ds us) (hk:∀ x∈ds,bH x≠0/\bH x = bH (ds.getD 0 .non)) (h2:2<=us.length) {Q:oR->ai->Prop}
 (q:Q (if bH (ds.getD 0 .non) < 3 then oneType' else tuples' true) s):wpAny M A (keyKind' us.toArray) Q E s:=by
 have hl:=r.length
 have all:∀ v∈us,∃ d∈ds,RdV s.heap d v:=by
  have:∀ (ds:List D) (us:List af),RdL s.heap ds us->∀ v∈us,∃ d∈ds,RdV s.heap d v:=by
   intro ds
   induction ds with
   | nil=>intro us r v hv;unfold RdL at r;subst r;cases hv
   | cons d ds ih =>
     intro us r v hv;unfold RdL at r;obtain ⟨w,ws,rfl,r1,r2⟩:=r;rcases aD.mp hv with rfl | hv
     . exact ⟨d,ao,r1⟩
     . obtain ⟨d',h1,h2⟩:=ih ws r2 v hv;exact ⟨d',aq _ h1,h2⟩
  exact this ds us r
 generalize hn:bH (ds.getD 0 .non) = n at hk q
 have tups:∀ (T:af) (P:D->Prop),(∀ d,P d->∀ u,RdV s.heap d u->Looks M s.heap (typeOf u) T)->(∀ x∈ds,∃ y r,x = .tup (y::r)/\P y)->∃ fs,KatTups s.heap us fs/\fs.length = us.length/\∀ v∈fs,Looks M s.heap (typeOf v) T:=by
  intro T P hP hx
  have:∀ (ds:List D) (us:List af),RdL s.heap ds us->(∀ x∈ds,∃ y r,x = .tup (y::r)/\P y)->∃ fs,KatTups s.heap us fs/\fs.length = us.length/\∀ v∈fs,Looks M s.heap (typeOf v) T:=by
   intro ds
   induction ds with
   | nil=>intro us r _;unfold RdL at r;subst r;exact ⟨[],KatTups.nil,rfl,fun v hv=>by cases hv⟩
   | cons d ds ih =>
     intro us r hx;unfold RdL at r;obtain ⟨w,ws,rfl,r1,r2⟩:=r;obtain ⟨fs,f1,f2,f3⟩:=ih ws r2 fun x h=>hx x (aq _ h);obtain ⟨y,rr,rfl,py⟩:=hx d ao;unfold RdV at r1;obtain ⟨a,its,rfl,⟨o,h1,hc,m,hd⟩,h3⟩:=r1;unfold RdL at h3;obtain ⟨f,fr,e,g1,g2⟩:=h3;refine ⟨f::fs,KatTups.cons h1 hc hd ?_ f1,by simp [f2],fun v hv=>?_⟩
     . have:its.toList[0]? = some f:=by rw [e];rfl
       simpa using this
     . rcases aD.mp hv with rfl | hv
       . exact hP y py _ g1
       . exact f3 v hv
  exact this ds us r hx
 match n,hk,q with
 | 0,hk,q =>
   obtain ⟨x,hx⟩:∃ x,x∈ds:=by
    cases ds with
    | nil=>rw [hl] at h2;simp at h2
    | cons x r=>exact ⟨x,ao⟩
   exact absurd (hk x hx).2 (hk x hx).1
 | 1,hk,q =>
   refine kas_kind (T:=.type "str") h2 (fun v hv=>?_) (by decide) (by decide) q;obtain ⟨d,hd,rd⟩:=all v hv;have:=(hk d hd).2;cases d<;>first | (simp [bH] at this;done) | skip
   . unfold RdV at rd;obtain ⟨t,rfl⟩:=rd;exact jH rfl
   . rename_i l;cases l with
     | nil=>simp [bH] at this
     | cons x r=>cases x<;>simp [bH] at this
 | 2,hk,q =>
   refine kas_kind (T:=.type "int") h2 (fun v hv=>?_) (by decide) (by decide) q;obtain ⟨d,hd,rd⟩:=all v hv;have:=(hk d hd).2;cases d<;>first | (simp [bH] at this;done) | skip
   . unfold RdV at rd;obtain ⟨t,rfl⟩:=rd;exact jH rfl
   . rename_i l;cases l with
     | nil=>simp [bH] at this
     | cons x r=>cases x<;>simp [bH] at this
 | 3,hk,q =>
   obtain ⟨fs,f1,f2,f3⟩:=tups (.type "str") (fun y=>∃ x,y = .str x) (fun d ⟨x,e⟩ u rd=>by subst e;unfold RdV at rd;obtain ⟨t,rfl⟩:=rd;exact jH rfl) fun x hx=>by
    have:=(hk x hx).2;cases x<;>first | (simp [bH] at this;done) | skip
    rename_i l;cases l with
    | nil=>simp [bH] at this
    | cons x r=>cases x<;>first | (simp [bH] at this;done) | exact ⟨_,_,rfl,_,rfl⟩
   exact kat_kind f1 (by lia) f3 (by decide) q
 | 4,hk,q =>
   obtain ⟨fs,f1,f2,f3⟩:=tups (.type "int") (fun y=>∃ x,y = .int x) (fun d ⟨x,e⟩ u rd=>by subst e;unfold RdV at rd;obtain ⟨t,rfl⟩:=rd;exact jH rfl) fun x hx=>by
    have:=(hk x hx).2;cases x<;>first | (simp [bH] at this;done) | skip
    rename_i l;cases l with
    | nil=>simp [bH] at this
    | cons x r=>cases x<;>first | (simp [bH] at this;done) | exact ⟨_,_,rfl,_,rfl⟩
   exact kat_kind f1 (by lia) f3 (by decide) q
 | m+5,hk,q =>
   obtain ⟨x,hx⟩:∃ x,x∈ds:=by
    cases ds with
    | nil=>rw [hl] at h2;simp at h2
    | cons x r=>exact ⟨x,ao⟩
   have:=(hk x hx).2;exfalso;cases x<;>first | (simp [bH] at this;done) | skip
   rename_i l;cases l with
   | nil=>simp [bH] at this
   | cons x r=>cases x<;>simp [bH] at this
theorem uY:∀ {ds:List D},(∀ x∈ds,dep x < 100000)->bZ ds < 100000
 | [],_=>by unfold bZ;lia
 | d::ds,h=>by
   have h1:=h d ao;have h2:=uY fun x hx=>h x (aq _ hx);unfold bZ
   lia
theorem uj (hs:sortable ds = true):bZ ds < 100000:=by
 obtain ⟨_,_,hlt⟩:=dt hs;refine uY fun x hx=>?_;obtain ⟨b,hb⟩:=hlt x hx x hx;unfold kS at hb;split at hb
 . lia
 . cases hb
theorem Kf {prog:aR} {w:bf} {A A':ba} {s:ai} {h':bK} {ds:List D} {its:List af} (hu:A.units+200 < cLine) (hA:A'.units<=A.units+2) (rd:RdL s.heap ds its) (l3:its.length = ds.length) (hs:sortable ds = true)
 (k:∀ b o,s.heap.get? b = some o->h'.get? b = some o) (i j:Nat) (hi:i < its.length) (hj:j < its.length) (C:Bool->ai->Prop) (c:C (gB ds i j) { s with heap:=h' }) :
 kas_ask prog w A' (if bH (ds.getD 0 .non) < 3 then oneType' else tuples' true) its i j C { s with heap:=h' }:=by
 obtain ⟨h64,hk,hlt⟩:=dt hs
 have mem:∀ i,i < its.length->ds.getD i .non∈ds:=fun i hi=>by
  have:i < ds.length:=by lia
  rw [fJ,ax this];exact ky this
 obtain ⟨b,hb⟩:=hlt _ (mem i hi) _ (mem j hj);have eb:gB ds i j = b:=by unfold gB;rw [hb];rfl
 rw [eb] at c;have ri:=RdV.keep k _ _ (RdL.nth i rd (by lia));have rj:=RdV.keep k _ _ (RdL.nth j rd (by lia));have ki:=hk _ (mem i hi);have kj:=hk _ (mem j hj);unfold kS at hb;split at hb
 . rename_i hd;unfold kas_ask;generalize ds.getD i .non = x at ri hb hd ki;generalize ds.getD j .non = y at rj hb hd kj;generalize its.getD i cn = u at ri;generalize its.getD j cn = v at rj;generalize bH (ds.getD 0 .non) = n0 at ki kj;by_cases h3:n0 < 3
   . rw [if_pos h3,keyLt'_oneType];refine JU (s:={ s with heap:=h' }) ri rj ?_ hb c;have:=ki.1;have k1:n0 = 1\/n0 = 2:=by lia
     rcases k1 with k1 | k1
     . exact .inl ⟨by lia,by lia⟩
     . exact .inr ⟨by lia,by lia⟩
   . rw [if_neg h3]
     have tx:∀ z:D,bH z = n0->∃ p r,z = .tup (p::r)/\((n0 = 3/\bH p = 1)\/(n0 = 4/\bH p = 2)):=fun z hz=>by
      cases z<;>first | (simp [bH] at hz;lia) | skip
      rename_i l
      cases l with
      | nil=>simp [bH] at hz;lia
      | cons p r=>cases p<;>first | (simp [bH] at hz;lia) | exact ⟨_,_,rfl,by simp [bH] at hz ⊢;lia⟩
     obtain ⟨p1,r1,rfl,w1⟩:=tx x ki.2;obtain ⟨p2,r2,rfl,w2⟩:=tx y kj.2;unfold RdV at ri rj;obtain ⟨a1,i1,rfl,⟨o1,g1,c1,m1,d1⟩,t1⟩:=ri;obtain ⟨a2,i2,rfl,⟨o2,g2,c2,m2,d2⟩,t2⟩:=rj;have z1:i1.size = (p1::r1).length:=by simpa using t1.length
     have z2:i2.size = (p2::r2).length:=by simpa using t2.length
     unfold ltD at hb;unfold dep at hd;refine kat_lt (s:={ s with heap:=h' }) g1 d1 g2 d2 (wZ (s:={ s with heap:=h' }) (p1::r1) (p2::r2) i1.toList i2.toList 0 t1 t2 (by lia) hb (by rw [z1,z2]) (fun _ x y hx hy=>?_) c);cases hx;cases hy;rcases w1 with ⟨e,w1⟩ | ⟨e,w1⟩<;>rcases w2 with ⟨e',w2⟩ | ⟨e',w2⟩<;>first | (exact .inl ⟨w1,w2⟩) | (exact .inr ⟨w1,w2⟩) | lia
 . cases hb
theorem vm {X:Cx} (hu:X.A.units+200 < cLine):cL X (.builtin "sorted") (fun xs H Q=>∃ F ds v,xs = [v]/\dE X.K H F (.lst ds) v/\sortable ds = true/\∀ p ys,H p = none->aK X.K H F (dh ds) ys->Q (.ref p) (upd H p (.lst ys))):=by
 intro pins s σ H xs us Q I r h;obtain ⟨F,ds,v,rfl,rb,hs,q⟩:=h;obtain ⟨a,ws,rfl,hl,rl⟩:=rb.lst;obtain ⟨u,rfl,rx⟩:=vals1 r;cases rx;obtain ⟨its,n,rv,ho,hz⟩:=hl.obj I;obtain ⟨h64,hk,hlt⟩:=dt hs;have rd:=ou I ds ws its rl rv (uj hs);have l1:=rl.length;have l2:=rv.length;have l3:its.length = ds.length:=by lia
 have isl:s.heap.IsList a its.toArray:=⟨_,ho,rfl,n,rfl⟩;have out:eE (gB ds) its = (if its.length < 2 then its else (ans (gB ds) (kas_sort its.length)).toList.map fun i=>its.getD i cn):=rfl
 have hlen:(eE (gB ds) its).length = its.length:=by
  rw [out];by_cases h:its.length < 2
  . rw [if_pos h]
  . rw [if_neg h,aj,(fy its.length).length_eq,gL]
 have small:∀ i∈(ans (gB ds) (kas_sort its.length)).toList,i < its.length:=fun i hi=>by simpa using (fy its.length).mem_iff.mp hi
 -- the values in their new places
 have hv:∃ ys,Vals ys (eE (gB ds) its)/\aK X.K H F (dh ds) ys:=by
  rw [out];unfold dh;by_cases h:its.length < 2
  . rw [if_pos h,if_pos (by lia)];exact ⟨ws,rv,rl⟩
  . rw [if_neg h,if_neg (by lia),<- l3];exact ⟨_,nM rv _ fun i hi=>by rw [l2];exact small i hi,nQ rl _ fun i hi=>by rw [<- l3];exact small i hi⟩
 obtain ⟨ys,vy,ry⟩:=hv;refine BG (lt:=gB ds) (κ:=if bH (ds.getD 0 .non) < 3 then oneType' else tuples' true) isl (by lia) hlen (fun h2 A' h' hA k C c=>?_) (fun A' h' hA k i j hi hj C c=>?_) ?_
 . exact FV (s:={ s with heap:=h' }) (RdL.keep k ds its rd) hk h2 c
 . exact Kf hu hA rd l3 hs k i j hi hj C c
 . obtain ⟨e,he⟩:=sortedAll_at s.heap its (eE (gB ds) its).toArray;refine ⟨.ref (s.heap.objs.size+1),upd H (s.heap.objs.size+1) (.lst ys),I.laid (t':=s.toks) (fun b u hb=>sortedAll_old hb) (jL _) ⟨?_,_,e,vy,he⟩,rfl,q _ _ (I.hok.fresh (jL _)) ry⟩;rw [ry.length,oj,bR]
   lia
end PP
end
section
namespace PP
open PySem PySem.W PyProof.Rows
section
variable {prog:aR} {w:bf} {A:ba} {E:af->ai->Prop} {s:ai}
end
end PP
end
section
namespace PP
open PySem L2 PySem.SeqAt PyProof.Rows PySem.W
variable [Tbs]
end PP
end
section
namespace PP
open PySem L2 PyProof.Rows
variable [Tbs]
section
variable {K:PySem.W.Frag} {cx:Cl} {X:Cx}
theorem gu (r:Rel K H F d v):RelM false K H F d v:=r
noncomputable def rC (K:PySem.W.Frag) (op:Cop):R2:=fun x y H Q=>∃ F a b k,dE K H F a x/\dE K H F b y/\xC op a b = some k/\Q (.bl k) H
theorem LZ (h:Ma p a b = some k):∃ i j,a = .int i/\b = .int j/\k = p i j:=by
 unfold Ma at h;split at h
 . cases h;exact ⟨_,_,rfl,rfl,rfl⟩
 . cases h
theorem Kb (h:inD a b = some k):(∃ ds,(b = .lst ds\/b = .tup ds)/\(dep a<=150/\bZ ds < 99999)/\k = ds.any fun y=>eqD y a)\/∃ x y,a = .str x/\b = .str y/\k = uH y x:=by
 unfold inD at h;split at h
 . split at h
   . cases h;exact .inl ⟨_,.inl rfl,‹_›,rfl⟩
   . cases h
 . split at h
   . cases h;exact .inl ⟨_,.inr rfl,‹_›,rfl⟩
   . cases h
 . split at h
   . cases h;exact .inr ⟨_,_,rfl,rfl,rfl⟩
   . cases h
 . cases h
theorem uC:OpR X (compareOp .NotIn) (fun x y H Q=>∃ i j,x = .str i/\y = .str j/\Q (.bl (!uH j i)) H):=by
 intro pins s σ H x y v u Q I rx ry h;obtain ⟨i,j,rfl,rfl,q⟩:=h;obtain ⟨t,rfl⟩:=rx;obtain ⟨t',rfl⟩:=ry;exact PySem.P.notIn_str ⟨.bl _,H,I,rfl,q⟩
theorem OpR.imp (h:OpR X f r) (w:∀ x y H Q,r' x y H Q->r x y H Q):OpR X f r':=fun pins s σ H x y v u Q I rx ry q=>h pins s σ H x y v u Q I rx ry (w _ _ _ _ q)
theorem OG (h:leD a b = some k):(∃ i j,a = .int i/\b = .int j/\k = decide (i<=j))\/∃ i j,a = .str i/\b = .str j/\k = !decide (j.cps.toList < i.cps.toList):=by
 unfold leD at h;split at h
 . cases h;exact .inl ⟨_,_,rfl,rfl,rfl⟩
 . cases h;exact .inr ⟨_,_,rfl,rfl,rfl⟩
 . cases h
theorem BZ:OpR X (compareOp .LtE) (fun x y H Q=>∃ i j,x = .str i/\y = .str j/\Q (.bl (!decide (j.cps.toList < i.cps.toList))) H):=by
 intro pins s σ H x y v u Q I rx ry h;obtain ⟨i,j,rfl,rfl,q⟩:=h;obtain ⟨t,rfl⟩:=rx;obtain ⟨t',rfl⟩:=ry;exact PySem.P.le_str ⟨.bl _,H,I,rfl,q⟩
theorem opC (hu:X.A.units+200 < cLine) (ho:AD op o = true):OpR X (compareOp o) (rC X.K op):=by
 cases op<;>cases o<;>first | (exact absurd ho au) | skip
 . exact OpR.imp (Me hu) fun x y H Q ⟨F,a,b,k,ra,rb,e,q⟩=>⟨F,a,b,k,ra,rb,e,q⟩
 . refine OpR.imp (Ot.or BZ) fun x y H Q zz=>?_;obtain ⟨F,a,b,k,ra,rb,e,q⟩:=zz;rcases OG e with ⟨i,j,rfl,rfl,rfl⟩ | ⟨i,j,rfl,rfl,rfl⟩
   . exact .inl ⟨i,j,ra.int,rb.int,q⟩
   . exact .inr ⟨i,j,ra.str,rb.str,q⟩
 . refine OpR.imp Ou fun x y H Q zz=>?_;obtain ⟨F,a,b,k,ra,rb,e,q⟩:=zz;obtain ⟨i,j,rfl,rfl,rfl⟩:=LZ e;exact ⟨i,j,ra.int,rb.int,q⟩
 . refine OpR.imp ((Mg hu).or Ov) fun x y H Q zz=>?_;obtain ⟨F,a,b,k,ra,rb,e,q⟩:=zz;change (if iU a b = true then some (eqD a b) else if OD a b = true then some false else none) = some k at e;split at e
   . cases e;exact .inl ⟨F,a,b,ra,rb,‹_›,q⟩
   . split at e
     . rename_i hm;cases e;cases a<;>cases b<;>first | (cases hm;done) | skip
       . rw [ra.int,rb.str];exact .inr ⟨rfl,q⟩
       . rw [ra.str,rb.int];exact .inr ⟨rfl,q⟩
     . cases e
 . refine OpR.imp (Mc hu) fun x y H Q zz=>?_;obtain ⟨F,a,b,k,ra,rb,e,q⟩:=zz;change (if iU a b = true then some (!eqD a b) else none) = some k at e;split at e
   . cases e;exact ⟨F,a,b,ra,rb,‹_›,q⟩
   . cases e
 . intro pins s σ H x y v u Q I rx ry h;obtain ⟨F,a,b,k,ra,rb,e,q⟩:=h;rcases Kb e with ⟨ds,hb,hd,rfl⟩ | ⟨x',y',rfl,rfl,rfl⟩
   . refine Mf hu pins s σ H x y v u Q I rx ry ⟨F,a,ds,ra,?_,hd,q⟩;rcases hb with rfl | rfl
     . exact .inl rb
     . exact .inr rb
   . exact Cb pins s σ H x y v u Q I rx ry ⟨x',y',ra.str,rb.str,q⟩
 . intro pins s σ H x y v u Q I rx ry h;obtain ⟨F,a,b,k,ra,rb,e,q⟩:=h;change (inD a b).map (!·) = some k at e;rw [aG] at e;obtain ⟨k',e,rfl⟩:=e;rcases Kb e with ⟨ds,hb,hd,rfl⟩ | ⟨x',y',rfl,rfl,rfl⟩
   . refine BY hu pins s σ H x y v u Q I rx ry ⟨F,a,ds,ra,?_,hd,q⟩;rcases hb with rfl | rfl
     . exact .inl rb
     . exact .inr rb
   . exact uC pins s σ H x y v u Q I rx ry ⟨x',y',ra.str,rb.str,q⟩
theorem MV (ev:evE cx (.cmp op a b) δ = some (d,δ')):∃ x δ1 y k,evE cx a δ = some (x,δ1)/\evE cx b δ1 = some (y,δ')/\xC op x y = some k/\d = .bl k:=by
 simp only [evE,ah,ae] at ev;obtain ⟨⟨x,δ1⟩,ea,⟨y',δ2⟩,eb,k,hd,e⟩:=ev;cases e;exact ⟨x,δ1,y',k,ea,eb,hd,rfl⟩
theorem JD (ev:evT cx (.cmp op a b) δ = some (k,δ')):∃ x δ1 y,evE cx a δ = some (x,δ1)/\evE cx b δ1 = some (y,δ')/\xC op x y = some k:=by
 simp only [evT,ah,ae] at ev;obtain ⟨⟨x,δ1⟩,ea,⟨y',δ2⟩,eb,k,hd,e⟩:=ev;cases e;exact ⟨x,δ1,y',ea,eb,hd⟩
theorem Il (hu:X.A.units+200 < cLine) (ho:AD op o = true) (pc:(!bS a || np b) = true) (ha:PE X y (tE X.K cx a)) (hb:PE X z (tE X.K cx b)) (hm:behindInMarks o z = false) :
 PE X (.Compare y [o] [z] pos) (tE X.K cx (.cmp op a b)):=by
 refine PE.imp (IT (opC hu ho) ha hb hm) fun σ H Q h=>?_;obtain ⟨G,F,δ,d,δ',ok,ev,post⟩:=h;obtain ⟨x,δ1,y',k,ea,eb,hd,rfl⟩:=MV ev;exact two ok ea eb pc fun v u H2 F2 st sm ok2 r1 r2=>⟨F2,x,y',k,r1.b,r2.b,hd,post _ H2 F2 st sm ok2 (gu (kO k))⟩
theorem Em (hu:X.A.units+200 < cLine) (ho:AD op o = true) (pc:(!bS a || np b) = true) (ha:PE X y (tE X.K cx a)) (hb:PE X z (tE X.K cx b)) (hm:behindInMarks o z = false) :
 PT X (.Compare y [o] [z] pos) (tT X.K cx (.cmp op a b)):=by
 refine PT.imp (IK (opC hu ho) ha hb hm) fun σ H Q h=>?_;obtain ⟨G,F,δ,k,δ',ok,ev,post⟩:=h;obtain ⟨x,δ1,y',ea,eb,hd⟩:=JD ev;exact two ok ea eb pc fun v u H2 F2 st sm ok2 r1 r2=>⟨F2,x,y',k,r1.b,r2.b,hd,k,rfl,post H2 F2 st sm ok2⟩
theorem eR (n:(!bS e) = true) (h:RelM (bS e) K H F d v):Rel K H F d v:=by
 have e1:bS e = false:=by simpa using n
 rw [e1] at h;exact h
theorem snd_and (na:(!bS a) = true) (nb:(!bS b) = true) (ha:PE X y (tE X.K cx a)) (hb:PE X (.BoolOp .And (z::r) pos) (tE X.K cx b)):PE X (.BoolOp .And (y::z::r) pos) (tE X.K cx (.and a b)):=by
 refine PE.imp (LX ha hb) fun σ H Q h=>?_;obtain ⟨G,F,δ,d,δ',ok,ev,post⟩:=h;simp only [evE,ah,ae] at ev;obtain ⟨⟨x,δ1⟩,ea,ev⟩:=ev;refine ⟨G,F,δ,x,δ1,ok,ea,fun v H1 F1 st1 sm1 ok1 r1=>?_⟩;replace r1:=eR na r1;have np1:np (.and a b) = (np a && np b):=rfl
 cases x with
 | bl k =>
   unfold Rel at r1;refine ⟨k,r1,?_⟩
   cases k with
   | true =>
     rw [if_pos rfl];refine ⟨G,F1,δ1,d,δ',ok1,ev,fun u H2 F2 st2 sm2 ok2 r2=>post u H2 F2 (st1.trans st2) (fun n=>?_) ok2 (gu (eR nb r2))⟩;rw [np1,aa] at n
     exact (sm1 n.1).trans (sm2 n.2)
   | false =>
     rw [if_neg au];cases ev
     exact post _ H1 F1 st1 (fun n=>by rw [np1,aa] at n;exact sm1 n.1) ok1 (gu (kO false))
 | _=>cases ev
theorem Eg (na:(!bS a) = true) (nb:(!bS b) = true) (ha:PE X y (tE X.K cx a)) (hb:PE X (.BoolOp .Or (z::r) pos) (tE X.K cx b)):PE X (.BoolOp .Or (y::z::r) pos) (tE X.K cx (.or a b)):=by
 refine PE.imp (Oj ha hb) fun σ H Q h=>?_;obtain ⟨G,F,δ,d,δ',ok,ev,post⟩:=h;simp only [evE,ah,ae] at ev;obtain ⟨⟨x,δ1⟩,ea,ev⟩:=ev;refine ⟨G,F,δ,x,δ1,ok,ea,fun v H1 F1 st1 sm1 ok1 r1=>?_⟩;replace r1:=eR na r1;have np1:np (.or a b) = (np a && np b):=rfl
 cases x with
 | bl k =>
   unfold Rel at r1;refine ⟨k,r1,?_⟩
   cases k with
   | false =>
     rw [if_neg au];refine ⟨G,F1,δ1,d,δ',ok1,ev,fun u H2 F2 st2 sm2 ok2 r2=>post u H2 F2 (st1.trans st2) (fun n=>?_) ok2 (gu (eR nb r2))⟩;rw [np1,aa] at n
     exact (sm1 n.1).trans (sm2 n.2)
   | true =>
     rw [if_pos rfl];cases ev
     exact post _ H1 F1 st1 (fun n=>by rw [np1,aa] at n;exact sm1 n.1) ok1 (gu (kO true))
 | _=>cases ev
theorem Ic (na:(!bS a) = true) (ha:PE X y (tE X.K cx a)):PE X (.UnaryOp .Not y pos) (tE X.K cx (.not a)):=by
 refine PE.imp (LS ha) fun σ H Q h=>?_;obtain ⟨G,F,δ,d,δ',ok,ev,post⟩:=h;simp only [evE,ah,ae] at ev;obtain ⟨⟨x,δ1⟩,ea,ev⟩:=ev;refine ⟨G,F,δ,x,δ1,ok,ea,fun v H1 F1 st1 sm1 ok1 r1=>?_⟩;replace r1:=eR na r1
 cases x with
 | bl k =>
   unfold Rel at r1;cases ev
   exact ⟨k,r1,post _ H1 F1 st1 sm1 ok1 (gu (kO _))⟩
 | _=>cases ev
theorem PT.pw (h:PT X (.BoolOp op vs pos) t):PW X (.BoolOp op vs pos) t:=fun _ pins s σ H Q I q=>h pins s σ H Q I q
theorem vZ (ha:PT X y (tT X.K cx a)) (hb:PW X (.BoolOp .And (z::r) pos) (tT X.K cx b)):PT X (.BoolOp .And (y::z::r) pos) (tT X.K cx (.and a b)):=by
 refine PT.imp (LF ha hb).pt fun σ H Q h=>?_;obtain ⟨G,F,δ,d,δ',ok,ev,post⟩:=h;simp only [evT,ah,ae] at ev;obtain ⟨⟨k,δ1⟩,ea,ev⟩:=ev;have np1:np (.and a b) = (np a && np b):=rfl;refine ⟨G,F,δ,k,δ1,ok,ea,fun H1 F1 st1 sm1 ok1=>?_⟩
 cases k with
 | true =>
   rw [if_pos rfl];refine ⟨G,F1,δ1,d,δ',ok1,ev,fun H2 F2 st2 sm2 ok2=>post H2 F2 (st1.trans st2) (fun n=>?_) ok2⟩;rw [np1,aa] at n
   exact (sm1 n.1).trans (sm2 n.2)
 | false =>
   rw [if_neg au];cases ev;exact post H1 F1 st1 (fun n=>by rw [np1,aa] at n;exact sm1 n.1) ok1
theorem zD (ha:PT X y (tT X.K cx a)) (hb:PW X (.BoolOp .Or (z::r) pos) (tT X.K cx b)):PT X (.BoolOp .Or (y::z::r) pos) (tT X.K cx (.or a b)):=by
 refine PT.imp (Of ha hb).pt fun σ H Q h=>?_;obtain ⟨G,F,δ,d,δ',ok,ev,post⟩:=h;simp only [evT,ah,ae] at ev;obtain ⟨⟨k,δ1⟩,ea,ev⟩:=ev;have np1:np (.or a b) = (np a && np b):=rfl;refine ⟨G,F,δ,k,δ1,ok,ea,fun H1 F1 st1 sm1 ok1=>?_⟩
 cases k with
 | false =>
   rw [if_neg au];refine ⟨G,F1,δ1,d,δ',ok1,ev,fun H2 F2 st2 sm2 ok2=>post H2 F2 (st1.trans st2) (fun n=>?_) ok2⟩;rw [np1,aa] at n
   exact (sm1 n.1).trans (sm2 n.2)
 | true =>
   rw [if_pos rfl];cases ev;exact post H1 F1 st1 (fun n=>by rw [np1,aa] at n;exact sm1 n.1) ok1
theorem El (ha:PT X y (tT X.K cx a)):PT X (.UnaryOp .Not y pos) (tT X.K cx (.not a)):=by
 refine PT.imp (LG ha) fun σ H Q h=>?_;obtain ⟨G,F,δ,d,δ',ok,ev,post⟩:=h;simp only [evT,ah,ae] at ev;obtain ⟨⟨k,δ1⟩,ea,ev⟩:=ev;cases ev;exact ⟨G,F,δ,k,δ1,ok,ea,fun H1 F1 st1 sm1 ok1=>post H1 F1 st1 sm1 ok1⟩
theorem Ij (na:(!bS a) = true) (nb:(!bS b) = true) (hc:PT X t (tT X.K cx c)) (ha:PE X y (tE X.K cx a)) (hb:PE X z (tE X.K cx b)):PE X (.IfExp t y z pos) (tE X.K cx (.ite c a b)):=by
 refine PE.imp (Fb hc ha hb) fun σ H Q h=>?_;obtain ⟨G,F,δ,d,δ',ok,ev,post⟩:=h;simp only [evE,ah,ae] at ev;obtain ⟨⟨k,δ1⟩,ea,ev⟩:=ev;have np1:np (.ite c a b) = (np c && np a && np b):=rfl;refine ⟨G,F,δ,k,δ1,ok,ea,fun H1 F1 st1 sm1 ok1=>?_⟩
 cases k with
 | true =>
   rw [if_pos rfl];refine ⟨G,F1,δ1,d,δ',ok1,ev,fun u H2 F2 st2 sm2 ok2 r2=>post u H2 F2 (st1.trans st2) (fun n=>?_) ok2 (gu (eR na r2))⟩;rw [np1,aa,aa] at n
   exact (sm1 n.1.1).trans (sm2 n.1.2)
 | false =>
   rw [if_neg au];refine ⟨G,F1,δ1,d,δ',ok1,ev,fun u H2 F2 st2 sm2 ok2 r2=>post u H2 F2 (st1.trans st2) (fun n=>?_) ok2 (gu (eR nb r2))⟩;rw [np1,aa,aa] at n;exact (sm1 n.1.1).trans (sm2 n.2)
theorem Ok.look (ok:Ok K G F σ H δ) (e:get δ i = some d):∃ v,σ[i]? = some (some v)/\dE K H F d v/\∃ F',Step G F H F' H/\Ok K G F' σ H (PP.demote δ i)/\Rel K H F' d v:=by
 unfold get at e
 cases q:δ[i]? with
 | none=>rw [q] at e;cases e
 | some s =>
   rw [q] at e
   cases s with
   | no=>cases e
   | fnc _ _=>cases e
   | val d' =>
     cases e;obtain ⟨v,e1,r⟩:=ok.sl i _ q;refine ⟨v,e1,.inl r,F,Step.refl,?_,r⟩
     unfold PP.demote;rw [q];exact ok
   | own ds =>
     cases e;obtain ⟨a,xs,e1,h1,h2,h3,h4⟩:=ok.sl i _ q;obtain ⟨o1,o2⟩:=ok.demote (d:=.lst ds) q rfl e1;refine ⟨.ref a,e1,.inr ⟨a,xs,ds,rfl,rfl,h3,h4⟩,fun b=>F b/\b≠a,⟨fun _ _ _ z _=>z,fun b z=>.inl z.1,fun b o r z e=>⟨⟨z,fun w=>h2.2 (by rw [<- w];exact r)⟩,e⟩,fun _ ps e=>⟨ps,e⟩⟩,?_,o2⟩;unfold PP.demote;rw [q];exact o1
theorem Ok.lookV (ok:Ok K G F σ H δ) (e:Gq δ i = some d):∃ v,σ[i]? = some (some v)/\∃ F',Step G F H F' H/\Ok K G F' σ H (PP.demote δ i)/\Rel K H F' d v:=by
 obtain ⟨v,e1,_,h⟩:=ok.look (by unfold Gq at e;exact e);exact ⟨v,e1,h⟩
theorem HX (hN:X.N[i]? = some x) (hv:Vis X.env.scope x) (hd:(x == ("__debug__":Str)) = false) (hcd:(x == ("__classdict__":Str)) = false):PE X (.Name x pos) (tE X.K cx (.var i)):=by
 refine PE.imp (jV hN hv hd hcd) fun σ H Q h=>?_;obtain ⟨G,F,δ,d,δ',ok,ev,post⟩:=h;simp only [evE,ah,ae] at ev;obtain ⟨d',e1,e⟩:=ev;cases e;obtain ⟨v,ev,F',st,ok',r⟩:=ok.lookV e1;exact ⟨v,ev,post v H F' st (fun _=>Sim.refl H) ok' (gu r)⟩
theorem Li (hN:X.N[i]? = some x) (hv:Vis X.env.scope x) (hd:(x == ("__debug__":Str)) = false) (hcd:(x == ("__classdict__":Str)) = false):PE X (.Name x pos) (tE X.K cx (.pk i)):=by
 refine PE.imp (jV hN hv hd hcd) fun σ H Q h=>?_;obtain ⟨G,F,δ,d,δ',ok,ev,post⟩:=h;simp only [evE,ah,ae] at ev;obtain ⟨d',e1,e⟩:=ev;cases e;obtain ⟨v,ev,rb,_⟩:=ok.look e1;exact ⟨v,ev,post v H F Step.refl (fun _=>Sim.refl H) ok rb⟩
theorem DZ (r:dE K H F d v) (e:tv d = some k):Np K v H k:=by
 cases d with
 | non=>cases e;rcases r with r | ⟨_,_,_,z,_⟩;(unfold Rel at r;subst r;rfl);cases z
 | bl b=>cases e;have:=r.bl;subst this;rfl
 | int i=>cases e;have:=r.int;subst this;rfl
 | str x =>
   change (if x.length<=sizeLine then some ((x.length:Int) != 0) else none) = some k at e;split at e
   . cases e;have:=r.str;subst this;exact ⟨‹_›,rfl⟩
   . cases e
 | lst ds =>
   cases e;obtain ⟨a,xs,rfl,h1,h2⟩:=r.lst;refine .inl ⟨xs,h1.sq,?_⟩;have:=h2.length
   cases ds<;>cases xs<;>first | rfl | (simp at this)
 | tup ds =>
   cases e;obtain ⟨a,xs,rfl,h1,h2⟩:=r.tup;refine .inr (.inl ⟨xs,h1,?_⟩);have:=h2.length
   cases ds<;>cases xs<;>first | rfl | (simp at this)
 | fn _ _=>cases e
theorem vY (he:e = .var i\/e = .pk i) (hN:X.N[i]? = some x) (hv:Vis X.env.scope x) (hd:(x == ("__debug__":Str)) = false) (hcd:(x == ("__classdict__":Str)) = false):PT X (.Name x pos) (tT X.K cx e):=by
 refine PT.imp (wB (jV hN hv hd hcd) fun _=>rfl) fun σ H Q h=>?_;obtain ⟨G,F,δ,k,δ',ok,ev,post⟩:=h
 have ev':∃ d,get δ i = some d/\tv d = some k/\δ = δ':=by
  rcases he with rfl | rfl
  . simp only [evT,ah,ae] at ev;obtain ⟨d,e1,k',e2,e⟩:=ev;cases e;exact ⟨d,e1,e2,rfl⟩
  . simp only [evT,ah,ae] at ev;obtain ⟨d,e1,k',e2,e⟩:=ev;cases e;exact ⟨d,e1,e2,rfl⟩
 obtain ⟨d,e1,e2,rfl⟩:=ev';obtain ⟨v,ev,rb,_⟩:=ok.look e1;exact ⟨v,ev,k,DZ rb e2,post H F Step.refl (fun _=>Sim.refl H) ok⟩
theorem Ik:PE X (.Constant (.int i) j pos) (tE X.K cx (.int i)) :=
 PE.imp LV fun σ H Q ⟨G,F,δ,d,δ',ok,ev,post⟩=>by cases ev;exact post _ H F Step.refl (fun _=>Sim.refl H) ok (gu (dC i))
theorem Ll:PE X (.Constant (.bool i) j pos) (tE X.K cx (.bl i)) :=
 PE.imp Oo fun σ H Q ⟨G,F,δ,d,δ',ok,ev,post⟩=>by cases ev;exact post _ H F Step.refl (fun _=>Sim.refl H) ok (gu (kO i))
theorem HZ:PE X (.Constant (.str i) j pos) (tE X.K cx (.str i)) :=
 PE.imp LR fun σ H Q ⟨G,F,δ,d,δ',ok,ev,post⟩=>by cases ev;exact post _ H F Step.refl (fun _=>Sim.refl H) ok (gu (iA i))
theorem Ie:PE X (.Constant .none j pos) (tE X.K cx .non) :=
 PE.imp LU fun σ H Q ⟨G,F,δ,d,δ',ok,ev,post⟩=>by cases ev;exact post _ H F Step.refl (fun _=>Sim.refl H) ok (gu zJ)
theorem Ei (hg:Gl X x) (hm:X.mg x = some u) (r:RelV v u) (hr:∀ d,cx.gl[g]? = some d->∀ H F,Rel X.K H F d v) (hd:(x == ("__debug__":Str)) = false):PE X (.Name x pos) (tE X.K cx (.glob g)):=by
 refine PE.imp (IS hg hm r hd) fun σ H Q h=>?_;obtain ⟨G,F,δ,d,δ',ok,ev,post⟩:=h;simp only [evE,ah,ae] at ev;obtain ⟨d',e1,e⟩:=ev;cases e;exact post v H F Step.refl (fun _=>Sim.refl H) ok (gu (hr d e1 H F))
theorem Ih (n:(!bS a) = true) (ha:PE X y (tE X.K cx a)):PE X (.UnaryOp .USub y pos) (tE X.K cx (.neg a)):=by
 refine PE.imp (Oi KW ha) fun σ H Q h=>?_;obtain ⟨G,F,δ,d,δ',ok,ev,post⟩:=h;simp only [evE,ah,ae] at ev;obtain ⟨⟨x,δ1⟩,ea,ev⟩:=ev
 cases x with
 | int i =>
   cases ev;refine ⟨G,F,δ,_,_,ok,ea,fun v H1 F1 st sm ok1 r=>?_⟩;have:=r.b.int;subst this
   exact ⟨i,rfl,post _ H1 F1 st sm ok1 (gu (dC _))⟩
 | _=>cases ev
end
section
variable {K:PySem.W.Frag} {cx:Cl} {X:Cx}
theorem um:PA X [] (tEs X.K cx .nil):=by
 refine fun pos pins s σ H Q I h=>mi pos pins s σ H Q I ?_;obtain ⟨G,F,δ,ds,δ',ok,ev,post⟩:=h;simp only [hZ] at ev;cases ev;exact post [] H F Step.refl (fun _=>Sim.refl H) ok ⟨rfl,rfl⟩
theorem qK (pc:(!bS a || npS es) = true) (ha:PE X y (tE X.K cx a)) (hr:PA X ys (tEs X.K cx es)) (hs:starEach (y::ys) X.env = (false,eval y X.env)::starEach ys X.env):PA X (y::ys) (tEs X.K cx (.cons a es)):=by
 refine fun pos pins s σ H Q I h=>iB ha hr hs pos pins s σ H Q I ?_;obtain ⟨G,F,δ,ds,δ',ok,ev,post⟩:=h;simp only [hZ,ah,ae] at ev;obtain ⟨⟨x,δ1⟩,ea,⟨ds',δ2⟩,eb,e⟩:=ev;cases e;refine ⟨G,F,δ,x,δ1,ok,ea,fun v H1 F1 st1 sm1 ok1 r1=>⟨G,F1,δ1,ds',δ2,ok1,eb,fun vs H2 F2 st2 sm2 ok2 r2=>?_⟩⟩;refine post (v::vs) H2 F2 (st1.trans st2) (fun z=>?_) ok2 ⟨x,ds',v,vs,rfl,rfl,RelM.step ok1.fd st2 (fun z=>sm2 (by rw [z] at pc;simpa using pc)) r1,r2⟩;have z':(np a && npS es) = true:=z;rw [aa] at z';exact (sm1 z'.1).trans (sm2 z'.2)
theorem nO.rl:∀ {es:Es} {ds:List D} {vs:List V},ie es = true->nO K H F es ds vs->aK K H F ds vs
 | .nil,ds,vs,_,h=>by obtain ⟨rfl,rfl⟩:=h;exact aK.nil
 | .cons e es,ds,vs,n,h=>by
   obtain ⟨d,ds',v,vs',rfl,rfl,h1,h2⟩:=h;have n':(!bS e && ie es) = true:=n;rw [aa] at n';exact aK.cons (eR n'.1 h1) (nO.rl n'.2 h2)
noncomputable def xM (K:PySem.W.Frag) (H:Hp) (F:aw->Prop):List D->List V->Prop
 | [],vs=>vs = []
 | d::ds,vs=>∃ v vs',vs = v::vs'/\dE K H F d v/\xM K H F ds vs'
theorem nO.bl:∀ {es:Es} {ds:List D} {vs:List V},nO K H F es ds vs->xM K H F ds vs
 | .nil,ds,vs,h=>by obtain ⟨rfl,rfl⟩:=h;rfl
 | .cons e es,ds,vs,h=>by
   obtain ⟨d,ds',v,vs',rfl,rfl,h1,h2⟩:=h;exact ⟨v,vs',rfl,h1.b,nO.bl h2⟩
theorem Aw {f:List D->Option D} {es:Es} {δ δ':Loc} {d:D} (ev:(do let (ds,δ1) <- hZ cx es δ;return (<- f ds,δ1)) = some (d,δ')):∃ ds,hZ cx es δ = some (ds,δ')/\f ds = some d:=by
 simp only [ah,ae] at ev;obtain ⟨⟨ds,δ1⟩,ea,d',hd,e⟩:=ev;cases e;exact ⟨ds,ea,hd⟩
theorem HY (n:ie es = true) (h:PA X xs (tEs X.K cx es)):PE X (.Tuple xs k pos) (tE X.K cx (.tup es)):=by
 refine PE.imp (LQ h) fun σ H Q h=>?_;obtain ⟨G,F,δ,d,δ',ok,ev,post⟩:=h;simp only [evE,ah,ae] at ev;obtain ⟨⟨ds,δ1⟩,ea,ev⟩:=ev;split at ev
 . rename_i hz;cases ev;refine ⟨G,F,δ,ds,δ1,ok,ea,fun vs H1 F1 st1 sm1 ok1 r1=>?_⟩;have r:=r1.rl n;refine ⟨by rw [r.length];exact hz,fun p hp=>?_⟩;obtain ⟨o1,o2,o3,o4⟩:=ok1.laid hp (.tup vs);exact post _ _ _ (st1.trans o2) (fun z=>(sm1 z).trans o3) o1 (gu (jU ok1 hp r))
 . cases ev
theorem Ii (n:ie es = true) (h:PA X xs (tEs X.K cx es)):PE X (.List xs pos) (tE X.K cx (.lst es)):=by
 refine PE.imp (EY h) fun σ H Q h=>?_;obtain ⟨G,F,δ,d,δ',ok,ev,post⟩:=h;simp only [evE,ah,ae] at ev;obtain ⟨⟨ds,δ1⟩,ea,ev⟩:=ev;split at ev
 . rename_i hz;cases ev;refine ⟨G,F,δ,ds,δ1,ok,ea,fun vs H1 F1 st1 sm1 ok1 r1=>?_⟩;have r:=r1.rl n;refine ⟨by rw [r.length];exact hz,fun p hp=>?_⟩;obtain ⟨o1,o2,o3,o4⟩:=ok1.laid hp (.lst vs);exact post _ _ _ (st1.trans o2) (fun z=>(sm1 z).trans o3) o1 (gu (mf ok1 hp r))
 . cases ev
theorem aK.at {H:Hp} {F:aw->Prop} {ds:List D} {xs:List V} {i:Int} {d:D} (h:aK K H F ds xs) (e:atI ds i = some d):∃ v,atI xs i = some v/\Rel K H F d v:=by
 unfold atI at e ⊢;rw [h.length]
 cases q:ixN ds.length i with
 | none=>rw [q] at e;cases e
 | some j =>
   rw [q] at e;exact h.get e
theorem Lj (pc:(!bS a || np b) = true) (ha:PE X y (tE X.K cx a)) (hb:PE X z (tE X.K cx b)) (hp:PlainIx z):PE X (.Subscript y z pos) (tE X.K cx (.ix a b)):=by
 refine PE.imp (Om MK ha hb hp) fun σ H Q h=>?_;obtain ⟨G,F,δ,d,δ',ok,ev,post⟩:=h;simp only [evE,ah,ae] at ev;obtain ⟨⟨x,δ1⟩,ea,⟨y',δ2⟩,eb,d',hd,e⟩:=ev;cases e;dsimp only at eb hd post;refine two ok ea eb pc fun v u H2 F2 st sm ok2 r1 r2=>?_;unfold ixD at hd;split at hd
 . have e2:=r2.b.int;obtain ⟨p,xs,e1,h1,h2⟩:=r1.b.lst;obtain ⟨w,hw,rw'⟩:=h2.at hd;exact .inl ⟨p,xs,_,w,e1,e2,h1.sq,hw,post _ _ _ st sm ok2 (gu rw')⟩
 . have e2:=r2.b.int;obtain ⟨p,xs,e1,h1,h2⟩:=r1.b.tup;obtain ⟨w,hw,rw'⟩:=h2.at hd;exact .inr (.inl ⟨p,xs,_,w,e1,e2,h1,hw,post _ _ _ st sm ok2 (gu rw')⟩)
 . have e2:=r2.b.int;have e1:=r1.b.str;split at hd
   . rename_i hz;rw [aG] at hd;obtain ⟨c,hc,rfl⟩:=hd;exact .inr (.inr ⟨_,_,c,e1,e2,hz,hc,post _ _ _ st sm ok2 (gu (iA _))⟩)
   . cases hd
 . cases hd
theorem JQ (h:∀ e,o = .yes e->∃ y,l = some y/\(!bS e) = true/\PE X y (tE X.K cx e)) (hn:o = .no->l = none):PO X l (tO X.K cx o):=by
 cases o with
 | no =>
   rw [hn rfl];intro pins s σ H Q I q;refine IP pins s σ H Q I ?_;obtain ⟨G,F,δ,d,δ',ok,ev,post⟩:=q;simp only [evO] at ev;cases ev
   exact post H F Step.refl (fun _=>Sim.refl H) ok
 | yes e =>
   obtain ⟨y,rfl,n,hy⟩:=h e rfl;intro pins s σ H Q I q;refine IM hy pins s σ H Q I ?_;obtain ⟨G,F,δ,d,δ',ok,ev,post⟩:=q;simp only [evO,ah,ae] at ev;obtain ⟨⟨x,δ1⟩,ea,ev⟩:=ev
   cases x with
   | int i =>
     cases ev
     exact ⟨G,F,δ,.int i,δ',ok,ea,fun v H1 F1 st1 sm1 ok1 r1=>⟨i,by have:=eR n r1;unfold Rel at this;exact this,post H1 F1 st1 sm1 ok1⟩⟩
   | _=>cases ev
theorem Lh {a:E} {lo hi:Eo} {y:aI} {l h:Option aI} {pos p2:Pos} (pc:(!bS a || (npO lo && npO hi)) = true) (ha:PE X y (tE X.K cx a)) (hl:PO X l (tO X.K cx lo)) (hh:PO X h (tO X.K cx hi)):PE X (.Subscript y (.Slice l h none p2) pos) (tE X.K cx (.sl a lo hi)):=by
 refine PE.imp (wH (zE.or (Lp.or Lq)) ha hl hh) fun σ H Q h=>?_;obtain ⟨G,F,δ,d,δ',ok,ev,post⟩:=h;simp only [evE,ah,ae] at ev;obtain ⟨⟨x,δ1⟩,ea,⟨l',δ2⟩,eb,⟨h',δ3⟩,ec,d',hd,e⟩:=ev;cases e;dsimp only at eb ec hd post;refine ⟨G,F,δ,x,δ1,ok,ea,fun v H1 F1 st1 sm1 ok1 r1=>⟨G,F1,δ1,l',δ2,ok1,eb,fun H2 F2 st2 sm2 ok2=>⟨G,F2,δ2,h',δ3,ok2,ec,fun H3 F3 st3 sm3 ok3=>?_⟩⟩⟩;have st:=st2.trans st3
 have rb:dE X.K H3 F3 x v:=by
  refine (RelM.step ok1.fd st (fun z=>?_) r1).b;rw [z] at pc;have pc':(npO lo && npO hi) = true:=by simpa using pc
  rw [aa] at pc';exact (sm2 pc'.1).trans (sm3 pc'.2)
 have fin:∀ w H4,iH H3 H4->Ok X.K G F3 σ H4 δ3->Rel X.K H4 F3 d w->Q w H4:=fun w H4 s4 o4 r4=>post w H4 F3 ((st1.trans st).trans (Step.of_same s4)) (fun z=>by
  have z':(np a && npO lo && npO hi) = true:=z;rw [aa,aa] at z';exact (((sm1 z'.1.1).trans (sm2 z'.1.2)).trans (sm3 z'.2)).trans (.of s4)) o4 (gu r4)
 unfold slD at hd;split at hd
 . cases hd;obtain ⟨p,xs,e1,h1,h2⟩:=rb.lst;refine .inl ⟨p,xs,e1,h1.sq,fun q hq=>?_⟩;obtain ⟨o1,o2,o3,o4⟩:=ok3.laid hq (.lst (sh xs l' h'));exact fin _ _ (cg hq _) o1 (mf ok3 hq (h2.cut l' h'))
 . split at hd
   . cases hd
   . rename_i hw;cases hd;obtain ⟨p,xs,e1,h1,h2⟩:=rb.tup;refine .inr (.inl ⟨p,xs,e1,h1,by rw [h2.length];exact hw,fun q hq=>?_⟩);obtain ⟨o1,o2,o3,o4⟩:=ok3.laid hq (.tup (sh xs l' h'));exact fin _ _ (cg hq _) o1 (jU ok3 hq (h2.cut l' h'))
 . split at hd
   . cases hd;have e1:=rb.str;subst e1;exact .inr (.inr ⟨_,rfl,‹_›,fin _ _ (fun b o e=>e) ok3 (iA _)⟩)
   . cases hd
 . cases hd
noncomputable def spF (K:PySem.W.Frag) (f:List D->Option D):Sp:=fun vs H Q _=>∃ F ds d,FD F H/\TF F/\ik H/\aK K H F ds vs/\f ds = some d/\∀ v H',Sim H H'->ik H'->Rel K H' F d v->Q v H'
theorem Ek {f:Nat} {es:Es} {x:Str} {y:aI} {ys:List aI} {k:Nat} {a:aw} {fd:eB} {ps:List Str} {p pos:Pos} (n:ie es = true) (fn:lP X.prog X.w X.K X.mg X.base CX0 k a fd ps (spF X.K (cx.call f))) (hr:kD k X.A) (hg:Gl X x)
 (hm:X.mg x = some (.ref a)) (hk:PySem.W.keepIn X.K (.ref a) = true) (hb:Binds X.K fd ps []) (hA:PA X (y::ys) (tEs X.K cx es)) (hd:(x == ("__debug__":Str)) = false) (he:starEach (y::ys) X.env = (false,eval y X.env)::starEach ys X.env) (hpl:(backTo pos (starEach ys X.env)).any (·.1) = false) :
 PE X (.Call (.Name x p) (y::ys) [] pos) (tE X.K cx (.call f es)):=by
 refine PE.imp (zS fn hr hg hm hk hb .nil (Fc) hA hd he hpl) fun σ H Q h=>?_;obtain ⟨G,F,δ,d,δ',ok,ev,post⟩:=h;simp only [evE] at ev;obtain ⟨ds,ea,hd⟩:=Aw ev;refine ⟨G,F,δ,ds,δ',ok,ea,fun vs H1 F1 st1 sm1 ok1 r1=>?_⟩;show spF X.K (cx.call f) (vs++[]) H1 Q E0;rw [bX];exact ⟨F1,ds,d,ok1.fd,ok1.tf,ok1.tabs,r1.rl n,hd,fun v H2 s2 t2 r2=>post v H2 F1 (st1.trans (ok1.call s2 t2).2) (fun z=>(sm1 z).trans s2) (ok1.call s2 t2).1 (gu r2)⟩
theorem pZ {e:E} {x:aI} {es:Es} {f:List D->Option D} (hE:PE X x (tE X.K cx e)) (he:∀ whole,isTrue x X.env whole = (do let v <- whole;standAt x.pos;holding [v] (truthy v))) (n:bS e = false)
 (e1:∀ δ,evE cx e δ = (do let (ds,δ1) <- hZ cx es δ;return (<- f ds,δ1))) (e2:∀ δ,evT cx e δ = (do let (ds,δ1) <- hZ cx es δ;let d <- f ds;return (<- tv d,δ1))):PT X x (tT X.K cx e):=by
 refine PT.imp (wB hE he) fun σ H Q h=>?_;obtain ⟨G,F,δ,k,δ',ok,ev,post⟩:=h;rw [e2] at ev;simp only [ah,ae] at ev;obtain ⟨⟨ds,δ1⟩,ea,d,hd,k',hk,e⟩:=ev;cases e;refine ⟨G,F,δ,d,δ1,ok,?_,fun v H1 F1 st1 sm1 ok1 r1=>⟨k,DZ r1.b hk,post H1 F1 st1 sm1 ok1⟩⟩;rw [e1];simp only [ah,ae];exact ⟨(ds,δ1),ea,d,hd,rfl⟩
noncomputable def rB (K:PySem.W.Frag) (f:List D->Option D):List V->Hp->VK->Prop:=fun xs H Q=>∃ F ds d,FD F H/\xM K H F ds xs/\f ds = some d/\∀ v H',iH H H'->Rel K H' F d v->Q v H'
theorem cL.imp {f:af} {r r':List V->Hp->VK->Prop} (h:cL X f r) (w:∀ xs H Q,r' xs H Q->r xs H Q):cL X f r':=fun pins s σ H xs us Q I rv q=>h pins s σ H xs us Q I rv (w _ _ _ q)
theorem b1 (h:xM K H F [d] xs):∃ v,xs = [v]/\dE K H F d v:=by
 obtain ⟨v,vs,rfl,h1,h2⟩:=h;cases h2;exact ⟨v,rfl,h1⟩
theorem b2 (h:xM K H F [d,e] xs):∃ v u,xs = [v,u]/\dE K H F d v/\dE K H F e u:=by
 obtain ⟨v,vs,rfl,h1,u,us,rfl,h2,h3⟩:=h;cases h3;exact ⟨v,u,rfl,h1,h2⟩
theorem qZ (fd:FD F H) (hp:H p = none):¬ F p:=fd.none hp
theorem Nb:cL X (.builtin "len") (rB X.K Jl):=by
 refine cL.imp (vo.or vn) fun xs H Q zz=>?_;obtain ⟨F,ds,d,fd,r,e,q⟩:=zz;unfold Jl at e;split at e
 . split at e
   . cases e;obtain ⟨v,rfl,rv⟩:=b1 r;exact .inr ⟨_,by rw [rv.str],‹_›,q _ _ (iH.refl H) (dC _)⟩
   . cases e
 . cases e;obtain ⟨v,rfl,rv⟩:=b1 r;obtain ⟨a,ys,rfl,h1,h2⟩:=rv.lst;exact .inl ⟨a,ys,rfl,.inl h1.sq,by rw [h2.length];exact q _ _ (iH.refl H) (dC _)⟩
 . cases e;obtain ⟨v,rfl,rv⟩:=b1 r;obtain ⟨a,ys,rfl,h1,h2⟩:=rv.tup;exact .inl ⟨a,ys,rfl,.inr h1,by rw [h2.length];exact q _ _ (iH.refl H) (dC _)⟩
 . cases e
theorem CC:cL X (.type "int") (fun xs H Q=>∃ x n,xs = [.str x]/\PySem.intText? x = some n/\x.length<=640/\Q (.int n) H):=by
 intro pins s σ H xs us Q I rv h;obtain ⟨x,n,rfl,h1,h2,q⟩:=h;obtain ⟨u,rfl,ru⟩:=rv.one;obtain ⟨t,rfl⟩:=ru;exact PySem.W.KIN.call_text h1 h2 ⟨.int n,H,I.tok _,⟨_,rfl⟩,q⟩
theorem Nd:cL X (.type "int") (rB X.K qB):=by
 refine cL.imp (CD.or CC) fun xs H Q zz=>?_;obtain ⟨F,ds,d,fd,r,e,q⟩:=zz;unfold qB at e;split at e
 . cases e;obtain ⟨v,rfl,r1⟩:=b1 r;exact .inl (.inl ⟨_,by rw [r1.int],q _ _ (iH.refl H) (dC _)⟩)
 . cases e;obtain ⟨v,rfl,r1⟩:=b1 r;exact .inl (.inr ⟨_,by rw [r1.bl],q _ _ (iH.refl H) (dC _)⟩)
 . split at e
   . rw [aG] at e;obtain ⟨n,e1,rfl⟩:=e;obtain ⟨v,rfl,r1⟩:=b1 r;exact .inr ⟨_,n,by rw [r1.str],e1,‹_›,q _ _ (iH.refl H) (dC _)⟩
   . cases e
 . cases e
theorem MY:cL X (.type "str") (rB X.K ug):=by
 refine cL.imp vi fun xs H Q zz=>?_;obtain ⟨F,ds,d,fd,r,e,q⟩:=zz;unfold ug at e;split at e
 . split at e
   . cases e;obtain ⟨v,rfl,r1⟩:=b1 r;exact ⟨_,by rw [r1.int],‹_›,q _ _ (iH.refl H) (iA _)⟩
   . cases e
 . cases e
theorem qI (h:iH H H'):Step g0 F H F H':=Step.of_same h
theorem MX:cL X (.type "tuple") (rB X.K uf):=by
 refine cL.imp sj fun xs H Q zz=>?_;obtain ⟨F,ds,d,fd,r,e,q⟩:=zz;unfold uf at e;split at e
 . cases e;obtain ⟨v,rfl,r1⟩:=b1 r;obtain ⟨a,ys,rfl,h1,h2⟩:=r1.lst;refine ⟨a,ys,rfl,.inl ⟨h1.sq,fun l hl=>q _ _ (cg hl _) ?_⟩⟩;unfold Rel;exact ⟨l,ys,rfl,SqT.of bN,aK.step fd (qI (cg hl _)) _ _ h2⟩
 . cases e;obtain ⟨v,rfl,r1⟩:=b1 r;obtain ⟨a,ys,rfl,h1,h2⟩:=r1.tup;refine ⟨a,ys,rfl,.inr ⟨h1,q _ _ (iH.refl H) ?_⟩⟩;unfold Rel;exact ⟨a,ys,rfl,h1,h2⟩
 . cases e
theorem Na:cL X (.type "list") (rB X.K oh):=by
 refine cL.imp nI fun xs H Q zz=>?_;obtain ⟨F,ds,d,fd,r,e,q⟩:=zz;unfold oh at e;split at e
 . cases e;obtain ⟨v,rfl,r1⟩:=b1 r;obtain ⟨a,ys,rfl,h1,h2⟩:=r1.lst;refine ⟨a,ys,rfl,.inl h1.sq,fun l hl=>q _ _ (cg hl _) ?_⟩;unfold Rel;exact ⟨l,ys,rfl,.inl ⟨.inl bN,qZ fd hl⟩,aK.step fd (qI (cg hl _)) _ _ h2⟩
 . cases e;obtain ⟨v,rfl,r1⟩:=b1 r;obtain ⟨a,ys,rfl,h1,h2⟩:=r1.tup;refine ⟨a,ys,rfl,.inr h1,fun l hl=>q _ _ (cg hl _) ?_⟩;unfold Rel;exact ⟨l,ys,rfl,.inl ⟨.inl bN,qZ fd hl⟩,aK.step fd (qI (cg hl _)) _ _ h2⟩
 . cases e
theorem tu:∀ {ds:List D} {ns:List Int} {xs:List V},Aj ds = some ns->aK K H F ds xs->xs = ns.map V.int
 | [],ns,xs,e,r=>by cases e;unfold aK at r;exact r
 | d::ds,ns,xs,e,r=>by
   unfold aK at r;obtain ⟨y,ys,rfl,h1,h2⟩:=r
   cases d with
   | int i =>
     unfold Aj at e;rw [aG] at e;obtain ⟨ms,e,rfl⟩:=e;unfold Rel at h1
     rw [h1,tu e h2,aP]
   | _=>cases e
theorem MZ (hc:X.calm = true):cL X (.builtin "max") (rB X.K maxD):=by
 intro pins s σ H xs us Q I rv ⟨F,ds,d,fd,r,e,q⟩;unfold maxD at e;split at e
 . cases e;obtain ⟨v,u,rfl,r1,r2⟩:=b2 r;exact CB hc pins s σ H _ us Q I rv ⟨_,_,by rw [r1.int,r2.int],q _ _ (iH.refl H) (dC _)⟩
 . rw [ae] at e;obtain ⟨ns,e,e'⟩:=e;split at e'
   . cases e'
   . rename_i hne;cases e';obtain ⟨v,rfl,r1⟩:=b1 r;obtain ⟨a,ys,rfl,h1,h2⟩:=r1.lst;rw [tu e h2] at h1;exact CA hc pins s σ H _ us Q I rv ⟨a,ns,rfl,hne,h1.sq,q _ _ (iH.refl H) (dC _)⟩
 . cases e
theorem rM:∀ {ds:List D} {ns:List Bool} {xs:List V},mB ds = some ns->aK K H F ds xs->xs = ns.map V.bl
 | [],ns,xs,e,r=>by cases e;unfold aK at r;exact r
 | d::ds,ns,xs,e,r=>by
   unfold aK at r;obtain ⟨y,ys,rfl,h1,h2⟩:=r
   cases d with
   | bl i =>
     unfold mB at e;rw [aG] at e;obtain ⟨ms,e,rfl⟩:=e;unfold Rel at h1
     rw [h1,rM e h2,aP]
   | _=>cases e
theorem Nf (hc:X.calm = true):cL X (.builtin "any") (rB X.K JF):=by
 refine cL.imp (CF hc) fun xs H Q zz=>?_;obtain ⟨F,ds,d,fd,r,e,q⟩:=zz;unfold JF at e;split at e
 . rw [aG] at e;obtain ⟨ns,e,rfl⟩:=e;obtain ⟨v,rfl,r1⟩:=b1 r;obtain ⟨a,ys,rfl,h1,h2⟩:=r1.lst;rw [rM e h2] at h1;exact ⟨a,ns,rfl,h1.sq,q _ _ (iH.refl H) (kO _)⟩
 . cases e
theorem Cw (hu:X.A.units+200 < cLine):cL X (.builtin "sorted") (rB X.K pY):=by
 refine cL.imp (vm hu) fun xs H Q zz=>?_;obtain ⟨F,ds,d,fd,r,e,q⟩:=zz;unfold pY at e;split at e
 . split at e
   . rename_i zs hs;cases e;obtain ⟨v,rfl,r1⟩:=b1 r;refine ⟨F,zs,v,rfl,r1,hs,fun p ys hp ry=>q _ _ (cg hp _) ?_⟩;unfold Rel;exact ⟨p,ys,rfl,.inl ⟨.inl bN,qZ fd hp⟩,aK.step fd (qI (cg hp _)) _ _ ry⟩
   . cases e
 . cases e
theorem jd {f:Blt} {es:Es} {x:Str} {p pos:Pos} {xs:List aI} (g:List D->Option D) (hg:lj f = g) (h:PE X (.Call (.Name x p) xs [] pos) (tCB (rB X.K g) (tEs X.K cx es))):PE X (.Call (.Name x p) xs [] pos) (tE X.K cx (.blt f es)):=by
 subst hg;refine PE.imp h fun σ H Q h=>?_;obtain ⟨G,F,δ,d,δ',ok,ev,post⟩:=h;simp only [evE] at ev;obtain ⟨ds,ea,hd⟩:=Aw ev;refine ⟨G,F,δ,ds,δ',ok,ea,fun vs H1 F1 st1 sm1 ok1 r1=>?_⟩;exact ⟨F1,ds,d,ok1.fd,r1.bl,hd,fun v H2 s2 r2=>post v H2 F1 (st1.trans (Step.of_same s2)) (fun z=>(sm1 z).trans (.of s2)) (ok1.same' s2) (gu r2)⟩
end
section
variable {K:PySem.W.Frag} {cx:Cl} {X:Cx}
theorem Lk (hT:tyName f = some T) (ht:t = (T:Str)) (hg:Gl X "isinstance") (hm:X.mg "isinstance" = none) (hgt:Gl X t) (hmt:X.mg t = none) (hy:PE X y (tE X.K cx e)) (hs:starEach [y,.Name t tp] X.env = [(false,eval y X.env),(false,eval (.Name t tp) X.env)]) :
 PE X (.Call (.Name "isinstance" p) [y,.Name t tp] [] pos) (tE X.K cx (.blt f (.cons e .nil))):=by
 have hb:bootBuiltins t = some (.type T):=by
  subst ht;cases f<;>simp [tyName] at hT<;>subst hT<;>rfl
 have hn:t≠"__name__":=by
  subst ht;cases f<;>simp [tyName] at hT<;>subst hT<;>decide +kernel
 have hdb:(t == ("__debug__":Str)) = false:=by
  subst ht;cases f<;>simp [tyName] at hT<;>subst hT<;>decide +kernel
 have hA:PA X [y,.Name t tp] (zw (tE X.K cx e) (zw (tC (.ty T)) Lc)):=iB hy (iB (IU hgt hmt hb rfl hn hdb) mi rfl) hs;refine PE.imp (iQ (GK hT) hg hm rfl hA (by decide +kernel) (by decide +kernel) hs rfl) fun σ H Q h=>?_;obtain ⟨G,F,δ,d,δ',ok,ev,post⟩:=h;simp only [evE] at ev;obtain ⟨ds,ea,hd⟩:=Aw ev;simp only [hZ,ah,ae] at ea;obtain ⟨⟨x,δ1⟩,ea,⟨ds',δ2⟩,eb,e2⟩:=ea;cases eb;cases e2
 obtain ⟨b,rfl⟩:∃ b,d = .bl b:=by
  cases f<;>simp [tyName] at hT<;>(cases x<;>simp [lj,iC] at hd<;>exact ⟨_,hd.symm⟩)
 refine ⟨G,F,δ,x,δ1,ok,ea,fun v H1 F1 st1 sm1 ok1 r1=>?_⟩;exact ⟨F1,x,v,b,r1.b,rfl,hd,post _ H1 F1 st1 (fun z=>sm1 (by have z':(np e && true) = true:=z;simpa using z')) ok1 (gu (kO b))⟩
noncomputable def LC:V->List V->Hp->VK->Prop:=fun x vs H Q=>∃ t:Str,x = .str t/\vs = []/\Q (.bl (decide (t.length > 0) && t.cps.all da)) H
theorem FA:MtR X "str.isdigit" LC:=by
 intro pins s σ H x xs v us Q I rx rv h;obtain ⟨y,rfl,rfl,q⟩:=h;obtain ⟨t,rfl⟩:=rx;cases rv;exact call_gives F.slot_str_isdigit (zd s y t) F.entry_str_isdigit (F.args_str_isdigit_1 _) (gives_str_isdigit y t) ⟨.bl _,H,I,rfl,q⟩
theorem BI (hN:X.N[i]? = some x) (hv:Vis X.env.scope x) (hd:(x == ("__debug__":Str)) = false) (hcd:(x == ("__classdict__":Str)) = false) (hl:ap.endLine = cp.line) :
 PE X (.Call (.Attribute (.Name x pos) "isdigit" ap) [] [] cp) (tE X.K cx (.isdig i)):=by
 refine PE.imp (LW PySem.F.plainAttrs_str PySem.F.slot_str_isdigit PySem.F.type_str_isdigit FA (jV hN hv hd hcd) rfl (by simpa using hl)) fun σ H Q h=>?_;obtain ⟨G,F,δ,d,δ',ok,ev,post⟩:=h;simp only [evE,ah,ae] at ev;obtain ⟨z,e1,ev⟩:=ev
 cases z with
 | str y =>
   cases ev;unfold PP.get at e1;split at e1
   . rename_i d0 q0;cases e1;obtain ⟨v,e2,r⟩:=ok.sl i _ q0;unfold Rel at r;subst r;exact ⟨_,e2,rfl,y,rfl,rfl,post _ H F Step.refl (fun _=>Sim.refl H) ok (gu (kO _))⟩
   . cases e1
   . cases e1
 | _=>cases ev
theorem Hy (fd:FD F H) (h1:Ls K H F a xs) (h3:aK K H F ds xs):Wk K G F H (Itl K a) ds:=by
 intro F2 H2 st fd2 i;have h4:=(h1.step st).sq;have h5:=aK.step fd st ds xs h3;refine ⟨fun d e=>?_,fun e=>⟨xs,h4,by rw [h5.length];lia⟩⟩;obtain ⟨v,hv,rv⟩:=h5.get e;refine ⟨⟨xs,v,h4,hv⟩,fun x H3 y=>?_⟩;obtain ⟨e3,y⟩:=y;refine ⟨e3,?_⟩;have:=y xs h4;rw [hv] at this;cases this;exact rv
theorem Ki (fd:FD F H) (h1:SqT K H a xs) (h3:aK K H F ds xs):Wk K G F H (Itt K a) ds:=by
 intro F2 H2 st fd2 i;have h4:=vV fd st.keep h1;have h5:=aK.step fd st ds xs h3;refine ⟨fun d e=>?_,fun e=>⟨xs,h4,by rw [h5.length];lia⟩⟩;obtain ⟨v,hv,rv⟩:=h5.get e;refine ⟨⟨xs,v,h4,hv⟩,fun x H3 y=>?_⟩;obtain ⟨e3,y⟩:=y;refine ⟨e3,?_⟩;have:=y xs h4;rw [hv] at this;cases this;exact rv
theorem Kj:Wk K G F H (Its x) (x.cps.toList.map fun c=>D.str ⟨#[c]⟩):=by
 intro F2 H2 st fd2 i;refine ⟨fun d e=>?_,fun e=>by show i = x.cps.size;simpa using e⟩;rw [bj,aG] at e;obtain ⟨c,hc,rfl⟩:=e;have hc':x.cps[i]? = some c:=by simpa using hc
 refine ⟨(dD.mp hc').1,fun v H3 y=>?_⟩;obtain ⟨e3,c',h1,h2⟩:=y;refine ⟨e3,?_⟩;rw [hc'] at h1;cases h1;rw [h2];exact iA _
theorem Kk {G:Gh} {H:Hp} {F:aw->Prop} {lo:Int} {n:Nat}:Wk K G F H (Itr lo n) (uv lo n):=by
 intro F2 H2 st fd2 i;unfold uv;refine ⟨fun d e=>?_,fun e=>by rw [e];simp;exact aA n⟩;rw [bj,aG] at e;obtain ⟨c,hc,rfl⟩:=e;have hl:i < n:=by have:=(aF.mp hc).1;simpa using this
 rw [List.getElem?_range hl] at hc;cases hc;refine ⟨hl,fun v H3 y=>?_⟩;obtain ⟨e3,h2⟩:=y;exact ⟨e3,by rw [h2];exact dC _⟩
noncomputable def Qb (K:PySem.W.Frag) (tl:TE):TI:=fun σ H R=>tl σ H fun v H1=>(∃ a,v = .ref a/\(∃ xs,SqL K H1 a xs)/\R (Itl K a) H1)\/(∃ a,v = .ref a/\(∃ xs,SqT K H1 a xs)/\R (Itt K a) H1)\/∃ x,v = .str x/\R (Its x) H1
theorem LM (hl:PE X l tl):PI X tg l (Qb X.K tl):=by
 intro pins s σ H R I h
 have key:∀ {v:af} {s1:ai} {x:V} {H1:Hp},Inv X pins σ H1 s1->RelV x v->((∃ a,x = .ref a/\(∃ xs,SqL X.K H1 a xs)/\R (Itl X.K a) H1)\/(∃ a,x = .ref a/\(∃ xs,SqT X.K H1 a xs)/\R (Itt X.K a) H1)\/∃ y,x = .str y/\R (Its y) H1) ->
  wpAny (model X.prog X.w) X.A (pyIter v) (PIE X pins σ tg R) X.xe s1:=by
  intro v s1 x H1 I1 r1 q1;rcases q1 with ⟨a,rfl,⟨xs,hq⟩,q⟩ | ⟨a,rfl,⟨xs,hq⟩,q⟩ | ⟨z,rfl,q⟩
  . cases r1;obtain ⟨its,rv,p,hz⟩:=I1.list hq;refine ir p.isList ?_;refine ⟨s1.heap.objs.size,[s1.heap.objs.size],_,_,H1,rfl,I1.kept (t':=s1.toks) fun b o e=>ag _ e,BB a _,⟨_,aE _ rfl,rfl,rfl⟩,fun b hb=>?_,q⟩;have e:b = s1.heap.objs.size:=by simpa using hb
    subst e;exact I1.fpOk (aA _) (I1.hok.fresh (aA _))
  . cases r1;obtain ⟨its,rv,p,hz⟩:=I1.tuple hq;refine Nu (show s1.heap.IsTuple a its.toArray from p) ?_;refine ⟨s1.heap.objs.size,[s1.heap.objs.size],_,_,H1,rfl,I1.kept (t':=s1.toks) fun b o e=>ag _ e,yo a _,⟨_,aE _ rfl,rfl,rfl⟩,fun b hb=>?_,q⟩;have e:b = s1.heap.objs.size:=by simpa using hb
    subst e;exact I1.fpOk (aA _) (I1.hok.fresh (aA _))
  . obtain ⟨t,rfl⟩:=r1;refine wpAny_pyIter_strU ?_;refine ⟨s1.heap.objs.size,[s1.heap.objs.size],_,_,H1,rfl,I1.kept (t':=s1.toks) fun b o e=>ag _ e,DX s1.heap.objs.size z t,⟨_,aE _ rfl,rfl,rfl⟩,fun b hb=>?_,q⟩;have e:b = s1.heap.objs.size:=by simpa using hb
    subst e;exact I1.fpOk (aA _) (I1.hok.fresh (aA _))
 exact thn (hl pins s σ H _ I h) fun v s1 ⟨x,H1,I1,r1,q1⟩=>key I1 r1 q1
theorem PI.imp (h:PI X tg l t) (w:∀ σ H R,t' σ H R->t σ H R):PI X tg l t':=fun pins s σ H R I q=>h pins s σ H R I (w σ H R q)
theorem Lg (n:(!bS e) = true) (hl:PE X l (tE X.K cx e)):PI X tg l (tI X.K cx (.sq e)):=by
 refine PI.imp (LM hl) fun σ H R h=>?_;obtain ⟨G,F,δ,ds,δ',ok,ev,post⟩:=h;simp only [evI,ah,ae] at ev;obtain ⟨⟨d,δ1⟩,ea,ds',hd,e2⟩:=ev;cases e2;dsimp only at hd post;refine ⟨G,F,δ,d,δ1,ok,ea,fun v H1 F1 st1 sm1 ok1 r1=>?_⟩;have r:=eR n r1;unfold items at hd;split at hd
 . cases hd;unfold Rel at r;obtain ⟨a,xs,e1,h1,h3⟩:=r;exact .inl ⟨a,e1,⟨xs,h1.sq⟩,post _ _ _ st1 sm1 ok1 (fun _=>Hy ok1.fd h1 h3)⟩
 . cases hd;unfold Rel at r;obtain ⟨a,xs,e1,h1,h3⟩:=r;exact .inr (.inl ⟨a,e1,⟨xs,h1⟩,post _ _ _ st1 sm1 ok1 (fun _=>Ki ok1.fd h1 h3)⟩)
 . split at hd
   . cases hd;unfold Rel at r;exact .inr (.inr ⟨_,r,post _ _ _ st1 sm1 ok1 fun _=>Kj⟩)
   . cases hd
 . cases hd
theorem Ib (n:(!bS e) = true) (hg:Gl X "range") (hm:X.mg "range" = none) (hy:PE X y (tE X.K cx e)) (hs:starEach [y] X.env = [(false,eval y X.env)]):PI X tg (.Call (.Name "range" p) [y] [] pos) (tI X.K cx (.rng e)):=by
 refine PI.imp (BV hg hm (iB hy mi hs) hs) fun σ H R h=>?_;obtain ⟨G,F,δ,ds,δ',ok,ev,post⟩:=h;simp only [evI,ah,ae] at ev;obtain ⟨⟨d,δ1⟩,ea,ev⟩:=ev
 cases d with
 | int j =>
   dsimp only at ev;split at ev
   . rename_i hj;cases ev;refine ⟨G,F,δ,.int j,_,ok,ea,fun v H1 F1 st1 sm1 ok1 r1=>?_⟩;have r:=eR n r1;unfold Rel at r;subst r;exact ⟨j,rfl,hj.1,hj.2,post _ _ _ st1 sm1 ok1 fun _=>Kk⟩
   . cases ev
 | _=>cases ev
end
end PP
end
section
namespace PP
open PySem L2 PyProof.Rows Builtin.Str
variable [Tbs]
section
variable {X:Cx} {cx:Cl}
end
end PP
end
section
namespace PP
open PySem L2 PyProof.Rows
variable [Tbs]
section
variable {X:Cx} {cx:Cl}
noncomputable def GdK (w:bf) (K:PySem.W.Frag) (a:aw) (D:List (Str × Int)):Prop :=
 KTD.tabLook KTD.flatLooks (fun b=>K.lookup b) a (D.map fun p=>(p.1,PyData.int p.2)) = true/\(D.map (·.1)).Nodup/\KTD.hashesOf (fun b=>K.lookup b) a = D.map fun p=>hashStr w p.1
end
noncomputable def BF (K:PySem.W.Frag) (f:List D->Option D):Sp:=fun vs H Q _=>∃ F ds ws k cs a d,FD F H/\TF F/\ik H/\vs = ws++[.ref a]/\aK K H F ds ws/\FnV H k cs a/\f (ds++[.fn k cs]) = some d/\∀ v H',Sim H H'->ik H'->Rel K H' F d v->Q v H'
noncomputable def spO (K:PySem.W.Frag) (f:List D->Option D):Sp:=fun vs H Q _=>∃ F ds zs,FD F H/\TF F/\ik H/\aK K H F ds vs/\f ds = some zs/\∀ a u H',Sim H H'->ik H'->H a = none->H' a = some u->iq K H' (fun b=>F b\/b = a) zs u->Q (.ref a) H'
noncomputable def JG (P:aR) (w:bf) (K:PySem.W.Frag) (mg:Str->Option af) (base:bK) (n k:Nat) (f:List D->Option D):Prop :=
 ∀ (A:ba) (outer:List Env) (s:ai) (H:Hp) (a:aw) (us:List af) (vs:List V) (cs:List D) (Q:VK),kD n A->vw P w K mg base A outer s H->Vals vs us->FnV H k cs a ->
  (∃ F ds d,FD F H/\TF F/\ik H/\aK K H F ds vs/\lfL ds = true/\f (ds++cs) = some d/\lf d = true/\∀ v H',Sim H H'->ik H'->Rel K H' F d v->Q v H') ->
  codeAny (model P w) A (.call (.ref a) ⟨us,[]⟩) (CR CX0 outer P w H s Q E0) s
structure Cok (X:Cx) (c:Ck) (cx:Cl) (k:Nat):Prop where
 hN:X.N = c.N
 nd:c.N.Nodup
 vis:∀ x,Vis c.sc x->Vis X.env.scope x
 gl:∀ x,c.sc.names.lookup x = some .globalImplicit->Gl X x
 st:∀ x,L2.Loc c.sc x->L2.Loc X.env.scope x/\(X.fn x = true\/X.env.scope.names.lookup x = some .local)
 kc:∀ x,(c.sc.names.lookup x = some .cell\/c.sc.names.lookup x = some .free)->X.env.kindOf x = some .cell\/X.env.kindOf x = some .free
 calm:X.calm = true
 xe:X.xe = fun _ _=>False
 room:kD k X.A
 fns:∀ (f:Nat) (x:Str) (ps:List Str),c.fns[f]? = some (x,ps)->∃ a fd,X.mg x = some (.ref a)/\PySem.W.keepIn X.K (.ref a) = true/\Binds X.K fd ps []/\lP X.prog X.w X.K X.mg X.base CX0 k a fd ps (spF X.K (cx.call f))
 fnF:∀ (f:Nat) (x:Str) (ps:List Str),c.fns[f]? = some (x,ps)->cx.hf f = true->∃ a fd,X.mg x = some (.ref a)/\PySem.W.keepIn X.K (.ref a) = true/\Binds X.K fd ps []/\lP X.prog X.w X.K X.mg X.base CX0 k a fd ps (BF X.K (cx.call f))
 fnO:∀ (f:Nat) (x:Str) (ps:List Str),c.fns[f]? = some (x,ps)->∃ a fd,X.mg x = some (.ref a)/\PySem.W.keepIn X.K (.ref a) = true/\Binds X.K fd ps []/\lP X.prog X.w X.K X.mg X.base CX0 k a fd ps (spO X.K (cx.call (f+uB)))
 lam:∀ (n:Nat) (cs:List D) (H:Hp) (a:aw),FnV H n cs a->JG X.prog X.w X.K X.mg X.base k n (cx.call n)
 blt:∀ x,x∈jG->X.mg x = none
 glob:∀ (g:Nat) (x:Str) (d:D),c.gn[g]? = some x->cx.gl[g]? = some d->∃ u v,X.mg x = some u/\RelV v u/\∀ H F,Rel X.K H F d v
 gsome:∀ (g:Nat) (x:Str),c.gn[g]? = some x->∃ d,cx.gl[g]? = some d
 gds:∀ (n:Str) (l:List (Str × Int)),Tbs.gds.lookup n = some l->∃ a,X.mg n = some (.ref a)/\GdK X.w X.K a l
 pos:k = 0->∀ f ds,cx.call f ds = none
theorem DR (h:Bx sc x = true):Vis sc x:=by
 unfold Bx at h;split at h
 . exact .inl ‹_›
 . exact .inr (.inl ‹_›)
 . exact .inr (.inr ‹_›)
 . cases h
theorem FR (h:MA sc x = true):L2.Loc sc x:=by
 unfold MA at h;split at h
 . exact .inl ‹_›
 . exact .inr ‹_›
 . cases h
theorem MP (h:glB sc x = true):sc.names.lookup x = some .globalImplicit:=by
 unfold glB at h;split at h
 . assumption
 . cases h
theorem zY (h:Fy x = true):(x == ("__debug__":Str)) = false/\(x == ("__classdict__":Str)) = false/\x≠("__name__":Str):=by
 unfold Fy at h;rw [aa,aa] at h;refine ⟨by simpa using h.1.1,by simpa using h.1.2,?_⟩;have:=h.2;intro z;subst z
 revert this
 decide +kernel
section
variable {X:Cx} {c:Ck} {cx:Cl} {k:Nat}
theorem Cok.name (C:Cok X c cx k) (h:fk c i x = true):X.N[i]? = some x/\Vis X.env.scope x/\(x == ("__debug__":Str)) = false/\(x == ("__classdict__":Str)) = false:=by
 unfold fk at h;rw [aa,aa] at h;obtain ⟨⟨h1,h2⟩,h3⟩:=h;obtain ⟨n1,n2,n3⟩:=zY h3;exact ⟨by rw [C.hN];exact of_decide_eq_true h1,C.vis x (DR h2),n1,n2⟩
theorem Cok.to (C:Cok X c cx k) (h:jW c i x = true):X.N[i]? = some x/\L2.Loc X.env.scope x/\(X.fn x = true\/X.env.scope.names.lookup x = some .local):=by
 unfold jW at h;rw [aa,aa] at h;obtain ⟨⟨h1,h2⟩,h3⟩:=h;obtain ⟨s1,s2⟩:=C.st x (FR h2);exact ⟨by rw [C.hN];exact of_decide_eq_true h1,s1,s2⟩
theorem Cok.global (C:Cok X c cx k) (h:eU c x = true):Gl X x/\(x == ("__debug__":Str)) = false/\x≠("__name__":Str):=by
 unfold eU at h;rw [aa] at h;obtain ⟨n1,n2,n3⟩:=zY h.2;exact ⟨C.gl x (MP h.1),n1,n3⟩
theorem Cok.units (C:Cok X c cx k):X.A.units+200 < cLine:=by have:=C.room.un;lia
theorem Cok.nd' (C:Cok X c cx k):X.N.Nodup:=by rw [C.hN];exact C.nd
noncomputable def uV:List Nat->TGs
 | []=>OM
 | i::is=>Kc (xj i) (uV is)
noncomputable def OL (K:PySem.W.Frag) (n:Nat) (t:TGs):TG:=fun v σ H Q=>∃ a xs,v = .ref a/\(SqT K H a xs\/SqL K H a xs)/\xs.length = n/\t xs σ H Q
theorem nK {prog:aR} {w:bf} {A:ba} {E:af->ai->Prop} {s:ai} {env:Env} {elts:List aI} {x1} {pos:Pos} {t:aw} {items:Array af} {Q:Unit->ai->Prop} (hh:A.handled = none) (ht:s.heap.IsList t items)
 (hn:(assignEach elts env).length = items.size) (hstar:(assignEach elts env).findIdx? (·.1) = none)
 (h:∀ h',Bb s.heap.objs.size s.heap h'->wpAny (model prog w) A (assignInOrder ((assignEach elts env).map (·.2)) items.toList) Q E { s with heap:=h' }) :
 wpAny (model prog w) A (assign (.Tuple elts x1 pos) env (.ref t)) Q E s:=by
 rw [assign_Tuple];refine ab (fG ?_);unfold unpack;rw [hn,hstar];exact ab (bO (PySem.W.kun_itemsOf hh ht h))
theorem LP {X:Cx} {es:List aI} {k:Nat} {t:TGs} {n:Nat} {pos:Pos} (hc:X.calm = true) (h:PGs X es t)
 (hn:(assignEach es X.env).length = n:=by rfl) (hst:(assignEach es X.env).findIdx? (·.1) = none:=by rfl):PG X (.Tuple es k pos) (OL X.K n t):=by
 intro pins s σ H v u Q I r hw;obtain ⟨a,xs,e1,hq,hl,hw⟩:=hw;rcases hq with hq | hq
 . exact LN hc h hn hst pins s σ H v u Q I r ⟨a,xs,e1,hq,hl,hw⟩
 . subst e1;cases r;obtain ⟨its,rv,pl,hz⟩:=I.list hq;refine nK (I.ok.hd hc) pl.isList (by simp [hn,<- hl,rv.length]) hst fun h' hx=>?_;have I1:Inv X pins σ H { s with heap:=h' }:=I.kept (t':=s.toks) fun b o e=>hx b o (aJ (az e)) e;exact h pins _ σ H xs _ Q I1 (by simpa using rv) hw
noncomputable def gTg (K:PySem.W.Frag):Tg->TG
 | .nm i=>xj i
 | .tp is=>OL K is.length (uV is)
theorem sR (C:Cok X c cx k):∀ (is:List Nat) (es:List aI),MW c is es = true->PGs X es (uV is)/\(assignEach es X.env).length = is.length/\(assignEach es X.env).findIdx? (·.1) = none
 | [],es,h=>by
   obtain ⟨rfl,_⟩:=fL h
   exact ⟨IQ,rfl,rfl⟩
 | i::is,es,h=>by
   obtain ⟨e,r,rfl,hh⟩:=eJ h;rw [aa] at hh;obtain ⟨x,p,rfl,h1⟩:=cF hh.1;obtain ⟨q1,q2,q3⟩:=sR C is r hh.2;obtain ⟨n1,n2,n3⟩:=C.to h1;refine ⟨EW (zR C.nd' n1 n2 n3) q1 rfl,?_,?_⟩
   . show (assignEach r X.env).length+1 = _;rw [q2];rfl
   . show List.findIdx? _ ((false,_)::assignEach r X.env) = none;rw [CZ,q3];rfl
theorem me (C:Cok X c cx k) (h:oJ c tg t = true):PG X t (gTg X.K tg):=by
 cases tg with
 | nm i =>
   obtain ⟨_,_,rfl,h1⟩:=cF h;obtain ⟨n1,n2,n3⟩:=C.to h1
   exact zR C.nd' n1 n2 n3
 | tp is =>
   obtain ⟨_,_,_,rfl,h1⟩:=jA h;obtain ⟨q1,q2,q3⟩:=sR C _ _ h1;exact LP C.calm q1 q2 q3
theorem take_set {α:Type} (l:List α) (i n:Nat) (x:α) (h:n<=i):(l.set i x).take n = l.take n:=by
 apply List.ext_getElem?;intro j;by_cases hj:j < n
 . rw [cY hj,cY hj,bL (by lia)]
 . rw [cS (by rw [bG];lia),cS (by rw [bG];lia)]
theorem qE {K:PySem.W.Frag} {G:Gh} {H:Hp} {F:aw->Prop} {Q:L2.St->Hp->Prop}:∀ (is:List Nat) (ds:List D) (xs:List V) (σ:L2.St) (δ:Loc),Ok K G F σ H δ->aK K H F ds xs->is.length = ds.length->is.all (· < δ.length) = true ->
 (∀ σ',Ok K G F σ' H ((is.zip ds).foldl (fun δ p=>δ.set p.1 (.val p.2)) δ)->(∀ n,(is.all fun i=>decide (n<=i)) = true->σ'.take n = σ.take n)->Q σ' H)->uV is xs σ H Q
 | [],ds,xs,σ,δ,ok,r,hl,_,q=>by
   have:ds = []:=gF.mp hl.symm;subst this;unfold aK at r
   exact ⟨r,q σ ok fun _ _=>rfl⟩
 | i::is,[],xs,σ,δ,ok,r,hl,_,q=>by simp at hl
 | i::is,d::ds,xs,σ,δ,ok,r,hl,ha,q=>by
   unfold aK at r;obtain ⟨y,ys,rfl,r1,r2⟩:=r;rw [gq,aa] at ha;refine ⟨y,ys,rfl,?_⟩;refine qE is ds ys (σ.set i (some y)) (δ.set i (.val d)) (ok.set (of_decide_eq_true ha.1) r1) r2 (by simpa using hl) ?_ fun σ' o t=>q σ' o fun n hn=>?_
   . rw [cw];exact ha.2
   . rw [gq,aa] at hn;rw [t n hn.2,take_set _ _ _ _ (of_decide_eq_true hn.1)]
theorem lE {K:PySem.W.Frag} {G:Gh} {H:Hp} {F:aw->Prop} {σ:L2.St} {δ δ':Loc} {tg:Tg} {d:D} {v:V} {Q:L2.St->Hp->Prop} (ok:Ok K G F σ H δ) (r:Rel K H F d v) (e:eC δ tg d = some δ') (q:∀ σ',Ok K G F σ' H δ'->(∀ n,md n tg = true->σ'.take n = σ.take n)->Q σ' H):gTg K tg v σ H Q:=by
 unfold eC at e;split at e
 . split at e
   . cases e;exact q _ (ok.set ‹_› r) fun n hn=>take_set _ _ _ _ (of_decide_eq_true hn)
   . cases e
 . split at e
   . rename_i hh;cases e;unfold Rel at r;obtain ⟨a,xs,e1,h1,h2⟩:=r;exact ⟨a,xs,e1,.inl h1,by rw [h2.length];exact hh.1.symm,qE _ _ _ _ _ ok h2 hh.1 hh.2 q⟩
   . cases e
 . split at e
   . rename_i hh;cases e;unfold Rel at r;obtain ⟨a,xs,e1,h1,h2⟩:=r;exact ⟨a,xs,e1,.inr h1.b.sq,by rw [h2.length];exact hh.1.symm,qE _ _ _ _ _ ok h2 hh.1 hh.2 q⟩
   . cases e
 . cases e
theorem Ok.ext {K:PySem.W.Frag} {G:Gh} {H:Hp} {F:aw->Prop} {σ:L2.St} {δ:Loc} (h:Ok K G F σ H δ) (tl:L2.St):Ok K G F (σ++tl) H (δ++aC tl.length .no):=by
 have low:∀ (j:Nat) (s:Sl),(δ++aC tl.length .no)[j]? = some s->s = .no\/(δ[j]? = some s/\(σ++tl)[j]? = σ[j]?):=fun j s e=>by
  by_cases hj:j < δ.length
  . rw [aL hj] at e;exact .inr ⟨e,aL (by rw [<- h.len];exact hj)⟩
  . rw [aS (by lia),dn] at e;split at e
    . cases e;exact .inl rfl
    . cases e
 refine ⟨h.same,h.fd,h.rf,h.rl,h.tf,h.tabs,by rw [ar,ar,cA,h.len],fun j s e=>?_,fun i j s t a e1 e2 o1 o2 p1 p2=>?_⟩
 . rcases low j s e with rfl | ⟨e1,e2⟩
   . trivial
   . rw [e2];exact h.sl j s e1
 . rcases low i _ e1 with z | ⟨a1,a2⟩
   . subst z;cases o1
   . rcases low j _ e2 with z | ⟨b1,b2⟩
     . subst z;cases o2
     . rw [a2] at p1;rw [b2] at p2;exact h.apart i j s t a a1 b1 o1 o2 p1 p2
theorem Ok.cut {K:PySem.W.Frag} {G:Gh} {H:Hp} {F:aw->Prop} {σ:L2.St} {δ:Loc} (h:Ok K G F σ H δ) (n:Nat):Ok K G F (σ.take n) H (δ.take n):=by
 have low:∀ (j:Nat) (s:Sl),(δ.take n)[j]? = some s->δ[j]? = some s/\(σ.take n)[j]? = σ[j]? := fun j s e=>by
  by_cases hj:j < n
  . rw [cY hj] at e;exact ⟨e,cY hj⟩
  . rw [cS (by rw [bG];lia)] at e;cases e
 refine ⟨h.same,h.fd,h.rf,h.rl,h.tf,h.tabs,by rw [bG,bG,h.len],fun j s e=>?_,fun i j s t a e1 e2 o1 o2 p1 p2=>?_⟩
 . obtain ⟨e1,e2⟩:=low j s e;rw [e2];exact h.sl j s e1
 . obtain ⟨a1,a2⟩:=low i _ e1;obtain ⟨b1,b2⟩:=low j _ e2;rw [a2] at p1;rw [b2] at p2;exact h.apart i j s t a a1 b1 o1 o2 p1 p2
noncomputable def Gh.and (G:Gh) (D:aw):Gh:=⟨G.h,fun b=>G.R b\/b = D⟩
theorem Ok.free {K:PySem.W.Frag} {G:Gh} {H:Hp} {F:aw->Prop} {σ:L2.St} {δ:Loc} {p:aw} (h:Ok K G F σ H δ) (hp:H p = none):G.free p:=by
 refine ⟨?_,fun z=>?_⟩
 . cases e:G.h p with
   | none=>rfl
   | some o =>
     by_cases t:NT o
     . rw [h.same.nt p o t e] at hp;cases hp
     . cases o<;>first | (exact absurd trivial t) | skip
       obtain ⟨qs,z⟩:=h.same.tb p _ e;rw [z] at hp;cases hp
 . obtain ⟨o,e,_⟩:=h.rl p z;rw [hp] at e;cases e
theorem Ok.enterO {K:PySem.W.Frag} {G:Gh} {H:Hp} {F:aw->Prop} {σ:L2.St} {δ:Loc} {p:aw} (h:Ok K G F σ H δ) (hp:H p = none) {u:HO} (hu:Mo u):Ok K (G.and p) (fun b=>F b\/b = p) σ (upd H p u) δ/\Step G F H (fun b=>F b\/b = p) (upd H p u):=by
 have nF:¬ F p:=qZ h.fd hp;have sm:=cg hp u;have st:∀ G':Gh,Step G' F H (fun b=>F b\/b = p) (upd H p u):=fun G'=>⟨fun b o _ e _=>sm b o e,fun b z=>by rcases z with z | z;exact .inl z;exact .inr (by rw [z];exact hp),fun b o _ f e=>⟨.inl f,sm b o e⟩,fun b ps e=>⟨ps,sm b _ e⟩⟩;refine ⟨⟨h.same.trans (.of sm),fun b z=>?_,fun b z=>?_,fun b z=>?_,fun t ht=>.inl (h.tf t ht),h.tabs.keep fun b o _ e=>sm b o e,h.len,fun j s e=>?_,h.apart⟩,st G⟩
 . rcases z with z | z
   . exact h.fd.same sm b z
   . rw [z];exact ⟨u,bN,.inl hu⟩
 . rcases z with z | z
   . exact .inl (h.rf b z)
   . exact .inr z
 . rcases z with z | z
   . exact zI h.rl sm b z
   . rw [z];exact ⟨u,bN,hu⟩
 . exact fF.stay0 h.fd (st G) (fun a v _ f1 _ f3=>⟨.inl f1,sm _ _ f3⟩) (fF.free (G:=G) (G':=G.and p) (fun a f1 f2=>⟨f2.1,fun z=>Or.elim z f2.2 fun w=>nF (w▸f1)⟩) (h.sl j s e))
theorem Ok.enter {K:PySem.W.Frag} {G:Gh} {H:Hp} {F:aw->Prop} {σ:L2.St} {δ:Loc} {p:aw} (h:Ok K G F σ H δ) (hp:H p = none) (xs:List V):Ok K (G.and p) (fun b=>F b\/b = p) σ (upd H p (.lst xs)) δ/\Step G F H (fun b=>F b\/b = p) (upd H p (.lst xs)):=h.enterO hp trivial
theorem Ok.pokeO {K:PySem.W.Frag} {G:Gh} {H:Hp} {F:aw->Prop} {σ:L2.St} {δ:Loc} {p:aw} {x u:HO} (h:Ok K (G.and p) F σ H δ) (hg:G.free p) (hP:H p = some x) (hx:Mo x) (hu:Mo u):Ok K (G.and p) F σ (upd H p u) δ:=by
 have hF:F p:=h.rf p (.inr rfl);have nt:=hx.nt;have st0:Step g0 F H F (upd H p u):=⟨fun b o _ e n=>by rw [bA (fun z:b = p=>n (by rw [z];exact hF))];exact e,fun b z=>.inl z,fun _ _ r _ _=>r.elim,fun b ps e=>⟨ps,by rw [bA (fun w:b = p=>by rw [w,hP] at e;cases e;exact nt)];exact e⟩⟩;refine ⟨⟨fun b o t e=>?_,fun b ps e=>?_⟩,fun b z=>?_,h.rf,fun b z=>?_,h.tf,h.tabs.keep fun b o n e=>?_,h.len,fun j s e=>?_,h.apart⟩
 . rw [bA (fun z:b = p=>by have e':G.h b = some o:=e;rw [z,hg.1] at e';cases e')];exact h.same.nt b o t e
 . rw [bA (fun z:b = p=>by have e':G.h b = some _:=e;rw [z,hg.1] at e';cases e')];exact h.same.tb b ps e
 . by_cases hb:b = p
   . rw [hb];exact ⟨u,bN,.inl hu⟩
   . rw [bA hb];exact h.fd b z
 . by_cases hb:b = p
   . rw [hb];exact ⟨u,bN,hu⟩
   . rw [bA hb];exact h.rl b z
 . rw [bA (fun w:b = p=>by rw [w,hP] at e;cases e;exact n hx)];exact e
 . exact fF.stay0 h.fd st0 (fun a v _ f1 f2 f3=>⟨f1,by rw [bA (fun z:a = p=>f2.2 (.inr z))];exact f3⟩) (h.sl j s e)
theorem Ok.poke {K:PySem.W.Frag} {G:Gh} {H:Hp} {F:aw->Prop} {σ:L2.St} {δ:Loc} {p:aw} {zs:List V} (h:Ok K (G.and p) F σ H δ) (hg:G.free p) (hP:H p = some (.lst zs)) (xs:List V):Ok K (G.and p) F σ (upd H p (.lst xs)) δ:=h.pokeO hg hP trivial trivial
theorem Ok.leave {K:PySem.W.Frag} {G:Gh} {H:Hp} {F:aw->Prop} {σ:L2.St} {δ:Loc} {p:aw} (h:Ok K (G.and p) F σ H δ) (hg:G.free p):Ok K G (fun b=>F b/\b≠p) σ H δ:=by
 have hs:∀ b,(F b/\b≠p)->F b:=fun b z=>z.1
 have tf':TF fun b=>F b/\b≠p:=fun t ht=>⟨h.tf t ht,fun w=>by
  obtain ⟨ps,e,_⟩:=h.tabs t ht;obtain ⟨o,hP,m⟩:=h.rl p (.inr rfl);rw [w,hP] at e;cases e;exact m⟩
 refine ⟨h.same,fun b z=>h.fd b z.1,fun b z=>⟨h.rf b (.inl z),fun w=>hg.2 (by rw [<- w];exact z)⟩,fun b z=>h.rl b (.inl z),tf',h.tabs,h.len,fun j s e=>?_,h.apart⟩;refine ((h.sl j s e).less h.fd hs fun a z za=>?_).free (G:=G.and p) (G':=G) fun b _ z=>⟨z.1,fun w=>z.2 (Or.inl w)⟩;obtain ⟨a',u,d,e1,f1,f2,_⟩:=fF.ow (h.sl j s e) z;rw [za] at e1;cases e1;exact ⟨f1,fun w=>f2.2 (.inr w)⟩
theorem Ok.keep {K:PySem.W.Frag} {G:Gh} {H:Hp} {F:aw->Prop} {σ:L2.St} {δ:Loc} {p:aw} (h:Ok K (G.and p) F σ H δ):Ok K G F σ H δ :=
 ⟨h.same,h.fd,fun b z=>h.rf b (.inl z),fun b z=>h.rl b (.inl z),h.tf,h.tabs,h.len,fun j s e=>(h.sl j s e).free (G:=G.and p) (G':=G) fun b _ z=>⟨z.1,fun w=>z.2 (Or.inl w)⟩,h.apart⟩
end
section
variable {K:PySem.W.Frag} {cx:Cl}
noncomputable def xA (cx:Cl) (k:Nat) (tg:Tg) (ifs:Eo) (elt:E):D->Loc->Option (Option D × Loc):=fun x δ0=>do
 let δ2 <- eC (δ0++aC k .no) tg x
 let (b,δ3) <- evG cx ifs δ2
 if b then do
  let (y,δ4) <- evE cx elt δ3
  return (some y,δ4.take δ0.length)
 else return (none,δ3.take δ0.length)
theorem JC (ev:evE cx (.comp k tg src ifs elt) δ = some (d,δ')) :
 ∃ ds δ1 ys,evI cx src δ = some (ds,δ1)/\nG (xA cx k tg ifs elt) ds δ1 = some (ys,δ')/\ys.length<=sizeLine/\d = .lst ys:=by
 simp only [evE,ah,ae] at ev;obtain ⟨⟨ds,δ1⟩,ea,⟨ys,δ2⟩,eb,ev⟩:=ev;split at ev
 . cases ev;exact ⟨ds,δ1,ys,ea,eb,‹_›,rfl⟩
 . cases ev
theorem Cu (h:xA cx k tg ifs elt x δ0 = some (o,δ1)):∃ δ2 b δ3,eC (δ0++aC k .no) tg x = some δ2/\evG cx ifs δ2 = some (b,δ3) /\
 ((b = true/\∃ y δ4,evE cx elt δ3 = some (y,δ4)/\o = some y/\δ1 = δ4.take δ0.length)\/(b = false/\o = none/\δ1 = δ3.take δ0.length)):=by
 unfold xA at h;simp only [ah,ae] at h;obtain ⟨δ2,e1,⟨b,δ3⟩,e2,h⟩:=h;refine ⟨δ2,b,δ3,e1,e2,?_⟩
 cases b with
 | true =>
   simp only [if_true,ae] at h;obtain ⟨⟨y,δ4⟩,e3,h⟩:=h;cases h
   exact .inl ⟨rfl,y,δ4,e3,rfl,rfl⟩
 | false =>
   simp only [aO,if_false] at h;cases h;exact .inr ⟨rfl,rfl,rfl⟩
theorem yT (h:nG f (x::xs) δ = some (ys,δ')):∃ o δ1 zs,f x δ = some (o,δ1)/\nG f xs δ1 = some (zs,δ')/\ys = (match o with | some y=>y::zs | none=>zs):=by
 unfold nG at h;simp only [ah,ae] at h;obtain ⟨⟨o,δ1⟩,e1,⟨zs,δ2⟩,e2,h⟩:=h;cases h;exact ⟨o,δ1,zs,e1,e2,rfl⟩
theorem Step.sub (h:Step G' F H F' H') (hs:∀ b,G.R b->G'.R b):Step G F H F' H':=⟨h.keep,h.grow,fun b o r=>h.res b o (hs b r),h.tb⟩
theorem xk:∀ (ps:List (Nat × D)) (δ:Loc),(ps.foldl (fun δ p=>δ.set p.1 (Sl.val p.2)) δ).length = δ.length:=by
 intro ps
 induction ps with
 | nil=>intro δ;rfl
 | cons a r ih=>intro δ;rw [dN,ih,cw]
theorem oo (es:eC δ tg d = some δ'):δ'.length = δ.length:=by
 unfold eC at es;split at es
 . split at es
   . cases es;rw [cw]
   . cases es
 . split at es
   . cases es;rw [xk]
   . cases es
 . split at es
   . cases es;rw [xk]
   . cases es
 . cases es
theorem uN {P:List D->(aw->Prop)->L2.St->Hp->Prop} (wk:Wk K G F1 H1 J ds) (hs:∀ r F σ H,P r F σ H->Step G F1 H1 F H/\FD F H) (h0:P ds F0 σ0 H0)
 (turn:∀ d r F σ H x (N:L2.St->Hp->Prop),P (d::r) F σ H->Rel K H F d x->(∀ F4 σ4 H4,P r F4 σ4 H4->N σ4 H4)->g x σ H fun σ2 H2=>tt σ2 H2 fun b H3=>if b = true then tb σ2 H3 N else N σ2 H3)
 (fin:∀ F σ H,P [] F σ H->Q σ H):tLp J g tt tb σ0 H0 Q:=by
 refine ⟨fun i m σc Hc=>m = ds.length - i/\i<=ds.length/\∃ F',P (ds.drop i) F' σc Hc,⟨ds.length,by simp,cu _,F0,h0⟩,?_⟩;rintro i m σc Hc ⟨rfl,hi,F',h⟩;obtain ⟨st,fd⟩:=hs _ _ _ _ h;by_cases hlt:i < ds.length
 . obtain ⟨go,yl⟩:=(wk F' Hc st fd i).1 ds[i] (ax hlt);refine .inr ⟨go,fun x H3 hy=>?_⟩;obtain ⟨rfl,rx⟩:=yl x H3 hy;rw [fX hlt] at h;exact turn _ _ _ _ _ x _ h rx fun F4 σ4 H4 z=>⟨_,by lia,rfl,hlt,F4,z⟩
 . obtain rfl:i = ds.length:=by lia
   rw [qt] at h;exact .inl ⟨(wk F' Hc st fd ds.length).2 rfl,fin _ _ _ h⟩
theorem Step.new {o:HO} (s:Step G F1 H1 F8 H8) (hp:H1 p = none):Step G F1 H1 F8 (upd H8 p o):=by
 refine ⟨fun b o t e nf=>?_,s.grow,fun b o r f e=>?_,fun b ps e=>?_⟩
 . rw [bA (fun w:b = p=>by rw [w,hp] at e;cases e)];exact s.keep b o t e nf
 . obtain ⟨a1,a2⟩:=s.res b o r f e;refine ⟨a1,?_⟩;rw [bA (fun w:b = p=>by rw [w,hp] at e;cases e)];exact a2
 . rw [bA (fun w:b = p=>by rw [w,hp] at e;cases e)];exact s.tb b ps e
theorem Sim.new {o:HO} (s:Sim H1 H8) (hp:H1 p = none):Sim H1 (upd H8 p o):=by
 refine ⟨fun b o t e=>?_,fun b ps e=>?_⟩
 . rw [bA (fun w:b = p=>by rw [w,hp] at e;cases e)];exact s.nt b o t e
 . rw [bA (fun w:b = p=>by rw [w,hp] at e;cases e)];exact s.tb b ps e
theorem yS (n:(!bS elt) = true) (hge:md σ.length tg = true)
 (ok1:Ok K G F1 σ H1 δ1) (wk:Wk K G F1 H1 J ds) (hp:H1 p = none) (ev:nG (xA cx k tg ifs elt) ds δ1 = some (ys,δ2)) (hz:ys.length<=sizeLine)
 (q:∀ σ' H2 F2 xs,Ok K (G.and p) F2 σ H2 δ2->H2 p = some (.lst xs)->aK K H2 F2 ys xs->Step G F1 H1 F2 H2->((npO ifs && np elt) = true->Sim H1 H2)->Q σ' H2) :
 tLp J (gTg K tg) (tG K cx ifs) (Ec p (tE K cx elt)) (σ++aC k none) (upd H1 p (.lst [])) Q:=by
 have hg:=ok1.free hp;obtain ⟨ok2,st2⟩:=ok1.enter hp [];have hFs:∀ b,G.R b->(G.and p).R b:=fun b z=>.inl z
 refine uN (P:=fun r F' σc Hc=>∃ δi zs xs yi,(∃ tl:L2.St,σc = σ++tl/\tl.length = k)/\Ok K (G.and p) F' σ Hc δi/\nG (xA cx k tg ifs elt) r δi = some (zs,δ2)/\yi++zs = ys/\Hc p = some (.lst xs)/\aK K Hc F' yi xs/\Step G F1 H1 F' Hc /\
  ((npO ifs && np elt) = true->Sim H1 Hc)) wk (fun r F σ H z=>by obtain ⟨_,_,_,_,_,ok,_,_,_,_,st,_⟩:=z;exact ⟨st,ok.fd⟩) (F0:=fun b=>F1 b\/b = p) ⟨δ1,ys,[],[],⟨_,rfl,by simp⟩,ok2,ev,rfl,bN,aK.nil,st2,fun _=>.of (cg hp _)⟩ ?_ ?_
 . rintro d r F' _ H3 x N ⟨δi,zs,xs,yi,⟨tl,rfl,htl⟩,ok,el,ey,eD,rl,st,sm⟩ rx hN;have hF:F' p:=ok.rf p (.inr rfl);obtain ⟨o,δ5,zs',ef,el',ez⟩:=yT el;obtain ⟨δ6,b,δ7,es,eg,alt⟩:=Cu ef;have okx:Ok K (G.and p) F' (σ++tl) H3 (δi++aC k .no):=by rw [<- htl];exact ok.ext tl
   refine lE okx rx es fun σ2 ok6 htake=>?_;have t2:σ2.take σ.length = σ:=by rw [htake _ hge,JN];rfl
   have l2:σ2.length = σ.length+k:=by
    have a1:=okx.len;have a2:=ok6.len;have e1:=oo es;have e2:(σ++tl).length = σ.length+k:=by rw [ar,htl]
    lia
   have dl:δi.length = σ.length:=ok.len
   have tail:∃ tl':L2.St,σ2 = σ++tl'/\tl'.length = k:=by
    refine ⟨σ2.drop σ.length,?_,by rw [eF];lia⟩
    conv=>lhs;rw [<- ib σ.length σ2,t2]
   refine ⟨G.and p,F',δ6,b,δ7,ok6,eg,fun H7 F7 st7 sm7 ok7=>?_⟩;have keepD:∀ {F8:aw->Prop} {H8:Hp},Step (G.and p) F' H3 F8 H8->H8 p = some (.lst xs):=fun s8=>(s8.res p _ (.inr rfl) hF eD).2;rcases alt with ⟨rfl,y,δ8,ee,rfl,rfl⟩ | ⟨rfl,rfl,rfl⟩
   . refine ka ?_;refine ⟨G.and p,F7,δ7,y,δ8,ok7,ee,fun u H8 F8 st8 sm8 ok8 r8=>?_⟩;have s78:=st7.trans st8;have eD8:=keepD s78;have ry:=eR n r8;have rl8:aK K H8 F8 yi xs:=aK.step ok.fd s78 yi xs rl;have hF8:F8 p:=ok8.rf p (.inr rfl);have pk:Step g0 F8 H8 F8 (upd H8 p (.lst (xs++[u]))):=⟨fun b o _ e nf=>by rw [bA (fun z:b = p=>nf (by rw [z];exact hF8))];exact e,fun b z=>.inl z,fun _ _ r _ _=>r.elim,fun b ps e=>⟨ps,by rw [bA (fun w:b = p=>by rw [w,eD8] at e;cases e)];exact e⟩⟩;subst ez
     have hyl:yi.length < sizeLine:=by
      have:=congrArg AY ey;rw [ar] at this;simp only [ay] at this
      lia
     refine ⟨xs,eD8,by rw [rl8.length];exact hyl,hN F8 _ _ ⟨δ8.take δi.length,zs',xs++[u],yi++[y],tail,?_,el',by rw [jI];exact ey,bN,?_,?_,fun z=>?_⟩⟩
     . have:=(ok8.poke hg eD8 (xs++[u])).cut δi.length;rw [dl,t2] at this;rw [dl];exact this
     . exact aK.step ok8.fd pk _ _ (rl8.append (aK.one ry))
     . exact (st.trans (s78.sub hFs)).new hp
     . have z':=z;rw [aa] at z';exact (((sm z).trans (sm7 z'.1)).trans (sm8 z'.2)).new hp
   . refine kU ?_;subst ez;refine hN F7 _ _ ⟨δ7.take δi.length,_,xs,yi,tail,?_,el',ey,keepD st7,aK.step ok.fd st7 yi xs rl,st.trans (st7.sub hFs),fun z=>?_⟩
     . have:=ok7.cut δi.length;rw [dl,t2] at this;rw [dl];exact this
     . have z':=z;rw [aa] at z';exact (sm z).trans (sm7 z'.1)
 . rintro F' _ Hc ⟨δi,zs,xs,yi,_,ok,el,ey,eD,rl,st,sm⟩;cases el;rw [bX] at ey;subst ey;exact q _ Hc F' xs ok eD rl st sm
end
end PP
end
section
namespace PP
open PySem
section
variable (cx:Cl)
noncomputable def wE (e:E) (δ:Loc) (Q:D->Loc->Prop):Prop:=∃ d δ',evE cx e δ = some (d,δ')/\Q d δ'
noncomputable def wT (e:E) (δ:Loc) (Q:Bool->Loc->Prop):Prop:=∃ d δ',evT cx e δ = some (d,δ')/\Q d δ'
noncomputable def wEs (e:Es) (δ:Loc) (Q:List D->Loc->Prop):Prop:=∃ d δ',hZ cx e δ = some (d,δ')/\Q d δ'
noncomputable def wO (e:Eo) (δ:Loc) (Q:Option Int->Loc->Prop):Prop:=∃ d δ',evO cx e δ = some (d,δ')/\Q d δ'
noncomputable def wG (e:Eo) (δ:Loc) (Q:Bool->Loc->Prop):Prop:=∃ d δ',evG cx e δ = some (d,δ')/\Q d δ'
noncomputable def wI (e:It) (δ:Loc) (Q:List D->Loc->Prop):Prop:=∃ d δ',evI cx e δ = some (d,δ')/\Q d δ'
noncomputable def wS (s:S) (δ:Loc) (Q:Out->Prop):Prop:=∃ o,evS cx s δ = some o/\Q o
noncomputable def wSs (s:Ss) (δ:Loc) (Q:Out->Prop):Prop:=∃ o,eV cx s δ = some o/\Q o
noncomputable def wTg (δ:Loc) (tg:Tg) (d:D) (Q:Loc->Prop):Prop:=∃ δ',eC δ tg d = some δ'/\Q δ'
noncomputable def wOp (op:Op) (x y:D) (Q:D->Prop):Prop:=∃ z,opD op x y = some z/\Q z
noncomputable def jR (op:Cop) (x y:D) (Q:Bool->Prop):Prop:=∃ z,xC op x y = some z/\Q z
noncomputable def mN (f:Blt) (ds:List D) (Q:D->Prop):Prop:=∃ z,lj f ds = some z/\Q z
noncomputable def mM (f:Nat) (ds:List D) (Q:D->Prop):Prop:=∃ z,cx.call f ds = some z/\Q z
noncomputable def uc (δ:Loc) (i:Nat) (Q:D->Prop):Prop:=∃ z,PP.get δ i = some z/\Q z
noncomputable def wIx (x y:D) (Q:D->Prop):Prop:=∃ z,ixD x y = some z/\Q z
noncomputable def wSl (x:D) (lo hi:Option Int) (Q:D->Prop):Prop:=∃ z,slD x lo hi = some z/\Q z
noncomputable def wTv (x:D) (Q:Bool->Prop):Prop:=∃ z,tv x = some z/\Q z
noncomputable def wItems (x:D) (Q:List D->Prop):Prop:=∃ z,items x = some z/\Q z
noncomputable def NN (k:Nat) (tg:Tg) (ifs:Eo) (elt:E):D->Loc->Option (Option D × Loc):=fun x δ0=>do
 let δ2 <- eC (δ0++aC k .no) tg x
 let (b,δ3) <- evG cx ifs δ2
 if b then do
  let (y,δ4) <- evE cx elt δ3
  return (some y,δ4.take δ0.length)
 else return (none,δ3.take δ0.length)
noncomputable def lV (k:Nat) (tg:Tg) (ifs:Eo) (elt:E) (ds:List D) (δ:Loc) (Q:List D->Loc->Prop):Prop:=∃ ys δ',nG (NN cx k tg ifs elt) ds δ = some (ys,δ')/\Q ys δ'
noncomputable def MR (tg:Tg) (body:Ss):D->Loc->Option Out:=fun x δ0=>match eC δ0 tg x with
 | some δ2=>eV cx body δ2
 | none=>none
noncomputable def oe (tg:Tg) (body:Ss) (ds:List D) (δ:Loc) (Q:Out->Prop):Prop:=∃ o,forL (MR cx tg body) ds δ = some o/\Q o
end
section
variable {α β γ:Type} {P P':α->Loc->Prop} {R R':α->Prop} {Q:β->Loc->Prop} {S:γ->Prop} {o:Option (α × Loc)} {u:Option α} {f:α × Loc->Option (β × Loc)} {g:α->Option (β × Loc)} {f':α × Loc->Option γ} {g':α->Option γ} {d:β} {r:γ} {δ:Loc} {c:Prop} [Decidable c]
theorem yb:(∃ r,o.bind f' = some r/\S r)↔∃ x δ1,o = some (x,δ1)/\∃ r,f' (x,δ1) = some r/\S r:=by
 cases o with
 | none=>exact ⟨fun ⟨_,e,_⟩=>(by cases e),fun ⟨_,_,e,_⟩=>(by cases e)⟩
 | some p=>exact ⟨fun h=>⟨p.1,p.2,rfl,h⟩,fun ⟨_,_,e,h⟩=>by cases e;exact h⟩
theorem yqs:(∃ r,u.bind g' = some r/\S r)↔∃ x,u = some x/\∃ r,g' x = some r/\S r:=by
 cases u with
 | none=>exact ⟨fun ⟨_,e,_⟩=>(by cases e),fun ⟨_,e,_⟩=>(by cases e)⟩
 | some p=>exact ⟨fun h=>⟨p,rfl,h⟩,fun ⟨_,e,h⟩=>by cases e;exact h⟩
theorem yr:(∃ r',some r = some r'/\S r')↔S r:=⟨fun ⟨_,e,h⟩=>(by cases e;exact h),fun h=>⟨_,rfl,h⟩⟩
theorem yi:(∃ r',(if c then some r else none) = some r'/\S r')↔c/\S r:=by
 by_cases h:c
 . rw [if_pos h];exact yr.trans ⟨fun q=>⟨h,q⟩,fun q=>q.2⟩
 . rw [if_neg h];exact ⟨fun ⟨_,e,_⟩=>(by cases e),fun q=>absurd q.1 h⟩
theorem yn {A:Prop} (h:¬ A):(∃ r',(none:Option γ) = some r'/\S r')↔A:=⟨fun ⟨_,e,_⟩=>(by cases e),fun q=>absurd q h⟩
theorem xq {o:Option (β × Loc)}:(∃ d δ',o = some (d,δ')/\Q d δ')↔∃ r,o = some r/\Q r.1 r.2:=⟨fun ⟨_,_,e,q⟩=>⟨_,e,q⟩,fun ⟨r,e,q⟩=>⟨r.1,r.2,e,q⟩⟩
theorem xb:(∃ d δ',o.bind f = some (d,δ')/\Q d δ')↔∃ x δ1,o = some (x,δ1)/\∃ d δ',f (x,δ1) = some (d,δ')/\Q d δ':=xq.trans (yb.trans ⟨fun ⟨x,y,e,h⟩=>⟨x,y,e,xq.mpr h⟩,fun ⟨x,y,e,h⟩=>⟨x,y,e,xq.mp h⟩⟩)
theorem x1:(∃ d δ',u.bind g = some (d,δ')/\Q d δ')↔∃ x,u = some x/\∃ d δ',g x = some (d,δ')/\Q d δ':=xq.trans (yqs.trans ⟨fun ⟨x,e,h⟩=>⟨x,e,xq.mpr h⟩,fun ⟨x,e,h⟩=>⟨x,e,xq.mp h⟩⟩)
theorem xr:(∃ d' δ',some (d,δ) = some (d',δ')/\Q d' δ')↔Q d δ:=xq.trans yr
theorem xi:(∃ d' δ',(if c then some (d,δ) else none) = some (d',δ')/\Q d' δ')↔c/\Q d δ:=xq.trans yi
theorem xn {A:Prop} (h:¬ A):(∃ d' δ',(none:Option (β × Loc)) = some (d',δ')/\Q d' δ')↔A:=xq.trans (yn h)
theorem xc (h:∀ x δ,P x δ↔P' x δ):(∃ x δ1,o = some (x,δ1)/\P x δ1)↔∃ x δ1,o = some (x,δ1)/\P' x δ1:=⟨fun ⟨x,δ,e,p⟩=>⟨x,δ,e,(h x δ).mp p⟩,fun ⟨x,δ,e,p⟩=>⟨x,δ,e,(h x δ).mpr p⟩⟩
theorem xd (h:∀ x,R x↔R' x):(∃ x,u = some x/\R x)↔∃ x,u = some x/\R' x:=⟨fun ⟨x,e,p⟩=>⟨x,e,(h x).mp p⟩,fun ⟨x,e,p⟩=>⟨x,e,(h x).mpr p⟩⟩
end
theorem MS {b:Bool} {P:Bool->Prop}:(∃ k,D.bl b = D.bl k/\P k)↔P b:=⟨fun ⟨_,e,q⟩=>by cases e;exact q,fun q=>⟨_,rfl,q⟩⟩
theorem Av {b:Int} {P:Int->Prop}:(∃ k,D.int b = D.int k/\P k)↔P b:=⟨fun ⟨_,e,q⟩=>by cases e;exact q,fun q=>⟨_,rfl,q⟩⟩
theorem OQ {b:Str} {P:Str->Prop}:(∃ k,D.str b = D.str k/\P k)↔P b:=⟨fun ⟨_,e,q⟩=>by cases e;exact q,fun q=>⟨_,rfl,q⟩⟩
theorem xl {b:List D} {P:List D->Prop}:(∃ k,D.lst b = D.lst k/\P k)↔P b:=⟨fun ⟨_,e,q⟩=>by cases e;exact q,fun q=>⟨_,rfl,q⟩⟩
section
variable {cx:Cl} {δ:Loc}
theorem KA {i:Nat} {Q:D->Loc->Prop}:wE cx (.var i) δ Q↔∃ d,Gq δ i = some d/\Q d (demote δ i):=x1.trans (xd fun _=>xr)
theorem NI {i:Nat} {Q:D->Loc->Prop}:wE cx (.pk i) δ Q↔uc δ i fun d=>Q d δ:=x1.trans (xd fun _=>xr)
theorem zr {i:Nat} {Q:D->Loc->Prop}:wE cx (.glob i) δ Q↔∃ d,cx.gl[i]? = some d/\Q d δ:=x1.trans (xd fun _=>xr)
theorem KL {i:Int} {Q:D->Loc->Prop}:wE cx (.int i) δ Q↔Q (.int i) δ:=xr
theorem NL {i:Bool} {Q:D->Loc->Prop}:wE cx (.bl i) δ Q↔Q (.bl i) δ:=xr
theorem KD {i:Str} {Q:D->Loc->Prop}:wE cx (.str i) δ Q↔Q (.str i) δ:=xr
theorem KP {op:Op} {a b:E} {Q:D->Loc->Prop}:wE cx (.bin op a b) δ Q↔wE cx a δ fun x δ1=>wE cx b δ1 fun y δ2=>wOp op x y fun z=>Q z δ2:=xb.trans (xc fun _ _=>xb.trans (xc fun _ _=>x1.trans (xd fun _=>xr)))
theorem KN {op:Cop} {a b:E} {Q:D->Loc->Prop}:wE cx (.cmp op a b) δ Q↔wE cx a δ fun x δ1=>wE cx b δ1 fun y δ2=>jR op x y fun z=>Q (.bl z) δ2:=xb.trans (xc fun _ _=>xb.trans (xc fun _ _=>x1.trans (xd fun _=>xr)))
theorem Kq {op:Cop} {a b:E} {Q:Bool->Loc->Prop}:wT cx (.cmp op a b) δ Q↔wE cx a δ fun x δ1=>wE cx b δ1 fun y δ2=>jR op x y fun z=>Q z δ2:=xb.trans (xc fun _ _=>xb.trans (xc fun _ _=>x1.trans (xd fun _=>xr)))
theorem KQ {a b:E} {Q:D->Loc->Prop}:wE cx (.and a b) δ Q↔wE cx a δ fun x δ1=>∃ k,x = .bl k/\if k = true then wE cx b δ1 Q else Q (.bl false) δ1:=xb.trans (xc fun x _=>by
 cases x with
 | bl k=>refine Iff.trans ?_ MS.symm;cases k;exact xr;exact cH
 | _=>exact xn fun ⟨_,e,_⟩=>by cases e)
theorem KG {a:E} {Q:D->Loc->Prop}:wE cx (.not a) δ Q↔wE cx a δ fun x δ1=>∃ k,x = .bl k/\Q (.bl (!k)) δ1:=xb.trans (xc fun x _=>by
 cases x with
 | bl k=>refine Iff.trans ?_ MS.symm;exact xr
 | _=>exact xn fun ⟨_,e,_⟩=>by cases e)
theorem KH {a:E} {Q:D->Loc->Prop}:wE cx (.neg a) δ Q↔wE cx a δ fun x δ1=>∃ i,x = .int i/\Q (.int (-i)) δ1:=xb.trans (xc fun x _=>by
 cases x with
 | int k=>refine Iff.trans ?_ Av.symm;exact xr
 | _=>exact xn fun ⟨_,e,_⟩=>by cases e)
theorem Kr {a b:E} {Q:Bool->Loc->Prop}:wT cx (.and a b) δ Q↔wT cx a δ fun k δ1=>if k = true then wT cx b δ1 Q else Q false δ1:=xb.trans (xc fun k _=>by cases k;exact xr;exact cH)
theorem NB {a b:E} {Q:Bool->Loc->Prop}:wT cx (.or a b) δ Q↔wT cx a δ fun k δ1=>if k = true then Q true δ1 else wT cx b δ1 Q:=xb.trans (xc fun k _=>by cases k;exact cH;exact xr)
theorem Kp {a:E} {Q:Bool->Loc->Prop}:wT cx (.not a) δ Q↔wT cx a δ fun k δ1=>Q (!k) δ1:=xb.trans (xc fun _ _=>xr)
theorem Ko {i:Nat} {Q:Bool->Loc->Prop}:wT cx (.var i) δ Q↔uc δ i fun d=>wTv d fun b=>Q b δ:=x1.trans (xd fun _=>x1.trans (xd fun _=>xr))
theorem HB {f:Nat} {es:Es} {Q:Bool->Loc->Prop}:wT cx (.call f es) δ Q↔wEs cx es δ fun ds δ1=>mM cx f ds fun d=>wTv d fun b=>Q b δ1:=xb.trans (xc fun _ _=>x1.trans (xd fun _=>x1.trans (xd fun _=>xr)))
theorem KJ {c a b:E} {Q:D->Loc->Prop}:wE cx (.ite c a b) δ Q↔wT cx c δ fun k δ1=>if k = true then wE cx a δ1 Q else wE cx b δ1 Q:=xb.trans (xc fun k _=>by cases k<;>exact cH)
theorem KC {es:Es} {Q:D->Loc->Prop}:wE cx (.tup es) δ Q↔wEs cx es δ fun ds δ1=>ds.length<=sizeLine/\Q (.tup ds) δ1:=xb.trans (xc fun _ _=>xi)
theorem KI {es:Es} {Q:D->Loc->Prop}:wE cx (.lst es) δ Q↔wEs cx es δ fun ds δ1=>ds.length<=sizeLine/\Q (.lst ds) δ1:=xb.trans (xc fun _ _=>xi)
theorem NJ {a b:E} {Q:D->Loc->Prop}:wE cx (.ix a b) δ Q↔wE cx a δ fun x δ1=>wE cx b δ1 fun y δ2=>wIx x y fun z=>Q z δ2:=xb.trans (xc fun _ _=>xb.trans (xc fun _ _=>x1.trans (xd fun _=>xr)))
theorem NH {a:E} {lo hi:Eo} {Q:D->Loc->Prop}:wE cx (.sl a lo hi) δ Q↔wE cx a δ fun x δ1=>wO cx lo δ1 fun l δ2=>wO cx hi δ2 fun h δ3=>wSl x l h fun z=>Q z δ3:=xb.trans (xc fun _ _=>xb.trans (xc fun _ _=>xb.trans (xc fun _ _=>x1.trans (xd fun _=>xr))))
theorem HL {f:Nat} {es:Es} {Q:D->Loc->Prop}:wE cx (.call f es) δ Q↔wEs cx es δ fun ds δ1=>mM cx f ds fun z=>Q z δ1:=xb.trans (xc fun _ _=>x1.trans (xd fun _=>xr))
theorem KO {f:Blt} {es:Es} {Q:D->Loc->Prop}:wE cx (.blt f es) δ Q↔wEs cx es δ fun ds δ1=>mN f ds fun z=>Q z δ1:=xb.trans (xc fun _ _=>x1.trans (xd fun _=>xr))
theorem vL {i:Nat} {Q:D->Loc->Prop}:wE cx (.isdig i) δ Q↔uc δ i fun d=>∃ x,d = .str x/\Q (.bl (decide (x.length > 0) && x.cps.all da)) δ:=x1.trans (xd fun x=>by
 cases x with
 | str k=>refine Iff.trans ?_ OQ.symm;exact xr
 | _=>exact xn fun ⟨_,e,_⟩=>by cases e)
theorem HH {Q:List D->Loc->Prop}:wEs cx .nil δ Q↔Q [] δ:=xr
theorem DI {e:E} {es:Es} {Q:List D->Loc->Prop}:wEs cx (.cons e es) δ Q↔wE cx e δ fun x δ1=>wEs cx es δ1 fun xs δ2=>Q (x::xs) δ2:=xb.trans (xc fun _ _=>xb.trans (xc fun _ _=>xr))
theorem ND {Q:Option Int->Loc->Prop}:wO cx .no δ Q↔Q none δ:=xr
theorem Kx {e:E} {Q:Option Int->Loc->Prop}:wO cx (.yes e) δ Q↔wE cx e δ fun x δ1=>∃ i,x = .int i/\Q (some i) δ1:=xb.trans (xc fun x _=>by
 cases x with
 | int k=>refine Iff.trans ?_ Av.symm;exact xr
 | _=>exact xn fun ⟨_,e,_⟩=>by cases e)
theorem NG {Q:Bool->Loc->Prop}:wG cx .no δ Q↔Q true δ:=xr
theorem Kz {e:E} {Q:Bool->Loc->Prop}:wG cx (.yes e) δ Q↔wT cx e δ Q:=cH
theorem Ky {e:E} {Q:List D->Loc->Prop}:wI cx (.rng e) δ Q↔wE cx e δ fun x δ1=>∃ j,x = .int j/\(-(2 ^ 62)<=j/\j < 2 ^ 62)/\Q (uv 0 j.toNat) δ1:=xb.trans (xc fun x _=>by
 cases x with
 | int k=>refine Iff.trans ?_ Av.symm;exact xi
 | _=>exact xn fun ⟨_,e,_⟩=>by cases e)
theorem NF {e:E} {Q:List D->Loc->Prop}:wI cx (.sq e) δ Q↔wE cx e δ fun x δ1=>wItems x fun ds=>Q ds δ1:=xb.trans (xc fun _ _=>x1.trans (xd fun _=>xr))
theorem HK {k:Nat} {tg:Tg} {src:It} {ifs:Eo} {elt:E} {Q:D->Loc->Prop}:wE cx (.comp k tg src ifs elt) δ Q↔wI cx src δ fun ds δ1=>lV cx k tg ifs elt ds δ1 fun ys δ2=>ys.length<=sizeLine/\Q (.lst ys) δ2:=xb.trans (xc fun _ _=>xb.trans (xc fun _ _=>xi))
theorem iI {k:Nat} {tg:Tg} {ifs:Eo} {elt:E} {Q:List D->Loc->Prop}:lV cx k tg ifs elt [] δ Q↔Q [] δ:=xr
theorem gM {k:Nat} {tg:Tg} {ifs:Eo} {elt:E} {x:D} {xs:List D} {Q:List D->Loc->Prop}:lV cx k tg ifs elt (x::xs) δ Q↔wTg (δ++aC k .no) tg x fun δ2=>wG cx ifs δ2 fun b δ3 =>
 if b = true then wE cx elt δ3 fun y δ4=>lV cx k tg ifs elt xs (δ4.take δ.length) fun ys δ5=>Q (y::ys) δ5 else lV cx k tg ifs elt xs (δ3.take δ.length) Q:=xb.trans (x1.trans (xd fun _=>xb.trans (xc fun b _=>by cases b;exact xr.trans (xb.trans (xc fun _ _=>xr));exact xb.trans (xc fun _ _=>xr.trans (xb.trans (xc fun _ _=>xr))))))
end
section
variable (cx:Cl)
noncomputable def vQ (ss:Ss) (Q:Out->Prop):Out->Prop
 | .nx δ=>wSs cx ss δ Q
 | .rt d δ=>Q (.rt d δ)
 | .ro d δ=>Q (.ro d δ)
end
noncomputable def wX (next:Loc->Prop) (Q:Out->Prop):Out->Prop
 | .nx δ=>next δ
 | .rt d δ=>Q (.rt d δ)
 | .ro d δ=>Q (.ro d δ)
noncomputable def qx (δ:Loc) (i:Nat) (s:Sl) (Q:Loc->Prop):Prop:=i < δ.length/\Q (δ.set i s)
noncomputable def Bf (pre δ:Loc) (i:Nat) (s:Sl) (Q:Loc->Prop):Prop:=i < δ.length/\Q (pre.reverse++δ.set i s)
noncomputable def NC (δ:Loc) (i:Nat) (s:Sl) (Q:Loc->Prop):Prop:=Q (δ.set i s)
noncomputable def sD (pre δ:Loc) (i:Nat) (s:Sl) (Q:Loc->Prop):Prop:=Q (pre.reverse++δ.set i s)
noncomputable def vK (pre δ:Loc) (Q:Loc->Prop):Prop:=Q (pre.reverse++δ)
noncomputable def Bh (δ0:Loc) (j:Nat) (δ:Loc) (i:Nat) (Q:D->Loc->Prop):Prop:=match δ[i]? with
 | some (.val d)=>Q d δ0
 | some (.own ds)=>Q (.lst ds) (δ0.set j (.val (.lst ds)))
 | _=>False
noncomputable def pM (δ:Loc) (i:Nat) (Q:List D->Prop):Prop:=match δ[i]? with
 | some (.own ds)=>Q ds
 | _=>False
section
variable {cx:Cl} {δ pre:Loc}
theorem qC {ss:Ss} {Q:Out->Prop}:vQ cx ss Q (.nx δ)↔wSs cx ss δ Q:=cH
theorem Ea {ss:Ss} {Q:Out->Prop} {d:D}:vQ cx ss Q (.rt d δ)↔Q (.rt d δ):=cH
theorem FP {n:Loc->Prop} {Q:Out->Prop}:wX n Q (.nx δ)↔n δ:=cH
theorem FO {n:Loc->Prop} {Q:Out->Prop} {d:D}:wX n Q (.rt d δ)↔Q (.rt d δ):=cH
theorem Dm {i:Nat} {s:Sl} {Q:Loc->Prop}:qx δ i s Q↔Bf [] δ i s Q:=cH
theorem Be {i:Nat} {s t:Sl} {Q:Loc->Prop}:Bf pre (t::δ) (i+1) s Q↔Bf (t::pre) δ i s Q:=by simp [Bf]
theorem Bd {s t:Sl} {Q:Loc->Prop}:Bf pre (t::δ) 0 s Q↔vK pre (s::δ) Q:=by simp [Bf,vK]
theorem Dt {i:Nat} {s:Sl} {Q:Loc->Prop}:NC δ i s Q↔sD [] δ i s Q:=cH
theorem yh {i:Nat} {s t:Sl} {Q:Loc->Prop}:sD pre (t::δ) (i+1) s Q↔sD (t::pre) δ i s Q:=by simp [sD]
theorem yg {s t:Sl} {Q:Loc->Prop}:sD pre (t::δ) 0 s Q↔vK pre (s::δ) Q:=by simp [sD,vK]
theorem Bk {t:Sl} {Q:Loc->Prop}:vK (t::pre) δ Q↔vK pre (t::δ) Q:=by simp [vK]
theorem Ds {Q:Loc->Prop}:vK [] δ Q↔Q δ:=cH
theorem Bg {δ0:Loc} {i j:Nat} {t:Sl} {Q:D->Loc->Prop}:Bh δ0 j (t::δ) (i+1) Q↔Bh δ0 j δ i Q:=cH
theorem Dk {δ0:Loc} {j:Nat} {d:D} {Q:D->Loc->Prop}:Bh δ0 j (.val d::δ) 0 Q↔Q d δ0:=cH
theorem Dl {δ0:Loc} {j:Nat} {ds:List D} {Q:D->Loc->Prop}:Bh δ0 j (.own ds::δ) 0 Q↔NC δ0 j (.val (.lst ds)) fun δ1=>Q (.lst ds) δ1:=cH
theorem Bn {i:Nat} {t:Sl} {Q:D->Prop}:uc (t::δ) (i+1) Q↔uc δ i Q:=cH
theorem DF {d:D} {Q:D->Prop}:uc (.val d::δ) 0 Q↔Q d:=yr
theorem DG {ds:List D} {Q:D->Prop}:uc (.own ds::δ) 0 Q↔Q (.lst ds):=yr
theorem Bl {i:Nat} {t:Sl} {Q:List D->Prop}:pM (t::δ) (i+1) Q↔pM δ i Q:=cH
theorem Du {ds:List D} {Q:List D->Prop}:pM (.own ds::δ) 0 Q↔Q ds:=cH
theorem HI {i:Nat} {Q:D->Loc->Prop}:wE cx (.var i) δ Q↔Bh δ i δ i Q:=by
 rw [KA];unfold Gq Bh PP.get demote
 cases h:δ[i]? with
 | none=>simp
 | some s=>cases s<;>simp
theorem mJ {Q:Out->Prop}:wSs cx .nil δ Q↔Q (.nx δ):=yr
theorem dz {s:S} {ss:Ss} {Q:Out->Prop}:wSs cx (.cons s ss) δ Q↔wS cx s δ (vQ cx ss Q):=by
 unfold wSs wS;simp only [eV]
 cases evS cx s δ with
 | none=>exact yn (fun ⟨_,e,_⟩=>by cases e)
 | some o =>
   refine Iff.trans ?_ yr.symm
   cases o with
   | nx δ1=>exact cH
   | _=>exact yr
theorem Kw {tg:Tg} {e:E} {Q:Out->Prop}:wS cx (.asg tg e) δ Q↔wE cx e δ fun d δ1=>wTg δ1 tg d fun δ2=>Q (.nx δ2):=yb.trans (xc fun _ _=>yqs.trans (xd fun _=>yr))
theorem Kn {i:Nat} {d:D} {Q:Loc->Prop}:wTg δ (.nm i) d Q↔qx δ i (.val d) Q:=yi
theorem Km {is:List Nat} {ds:List D} {Q:Loc->Prop}:wTg δ (.tp is) (.tup ds) Q↔(is.length = ds.length/\is.all (· < δ.length) = true)/\Q ((is.zip ds).foldl (fun δ p=>δ.set p.1 (.val p.2)) δ):=yi
theorem Kt {i:Nat} {e:E} {Q:Out->Prop}:wS cx (.new i e) δ Q↔wE cx e δ fun d δ1=>∃ ds,d = .lst ds/\qx δ1 i (.own ds) fun δ2=>Q (.nx δ2):=yb.trans (xc fun x _=>by
 cases x with
 | lst k=>refine Iff.trans ?_ xl.symm;exact yi
 | _=>exact yn fun ⟨_,e,_⟩=>by cases e)
theorem Kv {own:Bool} {i:Nat} {e:E} {Q:Out->Prop}:wS cx (.cmp own i e) δ Q↔wE cx e δ fun d δ1=>∃ ds,d = .lst ds/\qx δ1 i (bif own then .own ds else .val (.lst ds)) fun δ2=>Q (.nx δ2):=yb.trans (xc fun x _=>by
 cases x with
 | lst k=>refine Iff.trans ?_ xl.symm;cases own<;>exact yi
 | _=>exact yn fun ⟨_,e,_⟩=>by cases e)
theorem HE {i:Nat} {e:E} {Q:Out->Prop}:wS cx (.cmp false i e) δ Q↔wE cx e δ fun d δ1=>∃ ds,d = .lst ds/\qx δ1 i (.val (.lst ds)) fun δ2=>Q (.nx δ2):=Kv
noncomputable def Pg (x y:D) (Q:D->Prop):Prop:=∃ z,Qh x y = some z/\Q z
theorem KR {a b:Int} {Q:D->Prop}:Pg (.int a) (.int b) Q↔Q (.int (a+b)):=yr
theorem Ks {e:E} {Q:Out->Prop}:wS cx (.ret e) δ Q↔wE cx e δ fun d δ1=>Q (.rt d δ1):=yb.trans (xc fun _ _=>yr)
theorem Dq {c:E} {a b:Ss} {Q:Out->Prop}:wS cx (.ifs c a b) δ Q↔wT cx c δ fun k δ1=>if k = true then wSs cx a δ1 Q else wSs cx b δ1 Q:=yb.trans (xc fun k _=>by cases k<;>exact cH)
theorem Ku {tg:Tg} {src:It} {body:Ss} {Q:Out->Prop}:wS cx (.for_ tg src body) δ Q↔wI cx src δ fun ds δ1=>oe cx tg body ds δ1 Q:=yb.trans (xc fun _ _=>cH)
theorem Bj {i:Nat} {e:E} {Q:Out->Prop}:wS cx (.append i e) δ Q↔pM δ i fun _=>wE cx e δ fun d δ1=>pM δ1 i fun ds=>ds.length < sizeLine/\qx δ1 i (.own (ds++[d])) fun δ2=>Q (.nx δ2):=by
 unfold wS pM;simp only [evS]
 cases δ[i]? with
 | none=>exact yn id
 | some s =>
   cases s with
   | own ds0 =>
     refine yb.trans (xc fun d δ1=>?_);dsimp only
     cases h1:δ1[i]? with
     | none=>exact yn id
     | some s =>
       cases s with
       | own ds=>exact yi.trans ⟨fun q=>⟨q.1,(aF.mp h1).1,q.2⟩,fun q=>⟨q.1,q.2.2⟩⟩
       | _=>exact yn id
   | _=>exact yn id
theorem Bi {i:Nat} {e:E} {Q:Out->Prop}:wS cx (.extend i e) δ Q↔pM δ i fun _=>wE cx e δ fun d δ1=>∃ ys,d = .lst ys/\pM δ1 i fun ds=>ds.length+ys.length<=sizeLine/\qx δ1 i (.own (ds++ys)) fun δ2=>Q (.nx δ2):=by
 unfold wS pM;simp only [evS]
 cases δ[i]? with
 | none=>exact yn id
 | some s =>
   cases s with
   | own ds0 =>
     refine yb.trans (xc fun d δ1=>?_)
     cases d with
     | lst ys =>
       refine Iff.trans ?_ xl.symm;dsimp only
       cases h1:δ1[i]? with
       | none=>exact yn id
       | some s =>
         cases s with
         | own ds=>exact yi.trans ⟨fun q=>⟨q.1,(aF.mp h1).1,q.2⟩,fun q=>⟨q.1,q.2.2⟩⟩
         | _=>exact yn id
     | _=>exact yn fun ⟨_,e,_⟩=>by cases e
   | _=>exact yn id
theorem Dp {i:Nat} {j e:E} {Q:Out->Prop}:wS cx (.setix i j e) δ Q↔wE cx e δ fun d δ1=>pM δ1 i fun _=>wE cx j δ1 fun y δ2=>pM δ2 i fun ds=>∃ k m,y = .int k/\L2.ixN ds.length k = some m/\qx δ2 i (.own (ds.set m d)) fun δ3=>Q (.nx δ3):=yb.trans (xc fun d δ1=>by
 unfold pM;dsimp only
 cases δ1[i]? with
 | none=>exact yn id
 | some s =>
   cases s with
   | own ds0 =>
     refine yb.trans (xc fun y δ2=>?_)
     cases y with
     | int k =>
       dsimp only
       cases h2:δ2[i]? with
       | none=>exact yn id
       | some s =>
         cases s with
         | own ds =>
           dsimp only
           cases h3:L2.ixN ds.length k with
           | none=>exact yn fun ⟨_,_,e1,e2,_⟩=>by cases e1;rw [h3] at e2;cases e2
           | some m=>exact yr.trans ⟨fun q=>⟨_,_,rfl,h3,(aF.mp h2).1,q⟩,fun ⟨_,_,e1,e2,_,q⟩=>by cases e1;rw [h3] at e2;cases e2;exact q⟩
         | _=>exact yn id
     | _ =>
       refine yn ?_;split
       . exact fun ⟨_,_,e,_⟩=>by cases e
       . exact id
   | _=>exact yn id)
theorem gA {tg:Tg} {body:Ss} {Q:Out->Prop}:oe cx tg body [] δ Q↔Q (.nx δ):=yr
theorem fx {tg:Tg} {body:Ss} {x:D} {xs:List D} {Q:Out->Prop}:oe cx tg body (x::xs) δ Q↔wTg δ tg x fun δ2=>wSs cx body δ2 (wX (fun δ3=>oe cx tg body xs δ3 Q) Q):=by
 unfold oe wTg wSs;simp only [forL,MR]
 cases eC δ tg x with
 | none=>exact yn (fun ⟨_,e,_⟩=>by cases e)
 | some δ2 =>
   refine Iff.trans ?_ yr.symm;dsimp only
   cases eV cx body δ2 with
   | none=>exact yn (fun ⟨_,e,_⟩=>by cases e)
   | some o =>
     refine Iff.trans ?_ yr.symm
     cases o with
     | nx δ1=>exact cH
     | _=>exact yr
theorem mL {tg:Tg} {body:Ss} {Q:Out->Prop} (P:List D->Loc->Prop) (step:∀ x xs δ,P (x::xs) δ->wTg δ tg x fun δ2=>wSs cx body δ2 (wX (P xs) Q)) (fin:∀ δ,P [] δ->Q (.nx δ)):∀ (ds:List D) (δ:Loc),P ds δ->oe cx tg body ds δ Q
 | [],δ,h=>gA.mpr (fin δ h)
 | x::xs,δ,h=>by
   rw [fx];obtain ⟨δ2,e,o,e2,q⟩:=step x xs δ h;refine ⟨δ2,e,o,e2,?_⟩
   cases o with
   | nx δ1=>exact mL P step fin xs δ1 q
   | rt d δ1=>exact q
   | ro d δ1=>exact q
theorem iN {k:Nat} {tg:Tg} {ifs:Eo} {elt:E} {Q:List D->Loc->Prop} (P:D->D->Prop):∀ (ds:List D),(∀ x∈ds,wTg (δ++aC k .no) tg x fun δ2=>wG cx ifs δ2 fun b δ3=>b = true/\wE cx elt δ3 fun y δ4=>P x y/\δ4.take δ.length = δ) ->
 (∀ ys,PySem.Paired P ds ys->Q ys δ)->lV cx k tg ifs elt ds δ Q
 | [],h,q=>iI.mpr (q [] .nil)
 | x::xs,h,q=>by
   rw [gM];obtain ⟨δ2,e,b,δ3,e2,rfl,y,δ4,e3,p,t⟩:=h x ao;refine ⟨δ2,e,true,δ3,e2,?_⟩;show if true = true then _ else _
   rw [if_pos rfl];refine ⟨y,δ4,e3,?_⟩;show lV cx k tg ifs elt xs (δ4.take δ.length) _;rw [t];exact iN P xs (fun z hz=>h z (aq _ hz)) fun ys r=>q (y::ys) (.cons p r)
end
theorem DC {a b:Int} {Q:D->Prop}:wOp .add (.int a) (.int b) Q↔Q (.int (a+b)):=yr
theorem Dv {a b:Int} {Q:D->Prop}:wOp .sub (.int a) (.int b) Q↔Q (.int (a - b)):=yr
theorem Dx {a b:Int} {Q:D->Prop}:wOp .mul (.int a) (.int b) Q↔sX a b = true/\Q (.int (a * b)):=yi
theorem Dy {a b:Int} {Q:D->Prop}:wOp .mod (.int a) (.int b) Q↔0 < b/\Q (.int (a % b)):=yi
theorem Bm {a b:Int} {Q:D->Prop}:wOp .fdiv (.int a) (.int b) Q↔(0 < b/\b < 1000000000000000000000000000000000000000000000000000000000000)/\Q (.int (a / b)):=yi
theorem DA {a b:Str} {Q:D->Prop}:wOp .add (.str a) (.str b) Q↔a.length+b.length<=sizeLine/\Q (.str (a++b)):=yi
theorem Dw {a:Str} {b:Int} {Q:D->Prop}:wOp .mul (.str a) (.int b) Q↔(0<=b/\b<=1000/\a.length<=1000)/\Q (.str (yB a b.toNat)):=yi
theorem Dz {x:D} {a b:List D} {Q:D->Prop}:wOp .add (.tup (x::a)) (.tup b) Q↔(x::a).length+b.length<=sizeLine/\Q (.tup (x::a++b)):=yi
theorem DB {a b:List D} {Q:D->Prop}:wOp .add (.lst a) (.lst b) Q↔a.length+b.length<=sizeLine/\Q (.lst (a++b)):=yi
theorem HM {a b:Int} {Q:Bool->Prop}:jR .lt (.int a) (.int b) Q↔Q (decide (a < b)):=yr
theorem HN {a b:Int} {Q:Bool->Prop}:jR .gt (.int a) (.int b) Q↔Q (decide (b < a)):=yr
theorem DO {a b:Int} {Q:Bool->Prop}:jR .eq (.int a) (.int b) Q↔Q (decide (a = b)):=yr
theorem DN {a b:Str} {Q:Bool->Prop}:jR .eq (.str a) (.str b) Q↔Q (a == b):=yr
theorem vN {a:D} {ds:List D} {Q:Bool->Prop}:jR .isin a (.tup ds) Q↔(dep a<=150/\bZ ds < 99999)/\Q (ds.any fun y=>eqD y a):=yi
theorem sE {ds:List D} {Q:D->Prop}:mN .len [.lst ds] Q↔Q (.int ds.length):=yr
theorem Bu {ds:List D} {Q:D->Prop}:mN .len [.tup ds] Q↔Q (.int ds.length):=yr
theorem DQ {i j:Int} {Q:D->Prop}:mN .max [.int i,.int j] Q↔Q (.int (if j > i then j else i)):=yr
theorem Bw {b:Bool} {Q:D->Prop}:mN .toInt [.bl b] Q↔Q (.int (if b then 1 else 0)):=yr
theorem DP {i:Int} {Q:D->Prop}:mN .toStr [.int i] Q↔i.natAbs.log2 < 1920/\Q (.str (toString i)):=yi
theorem Br {ds:List D} {Q:D->Prop}:mN .toTup [.lst ds] Q↔Q (.tup ds):=yr
theorem Bt {ds:List D} {Q:D->Prop}:mN .toLst [.lst ds] Q↔Q (.lst ds):=yr
theorem Bs {ds:List D} {Q:D->Prop}:mN .toLst [.tup ds] Q↔Q (.lst ds):=yr
theorem vO {ds:List D} {Q:D->Prop}:mN .sorted [.lst ds] Q↔sortable ds = true/\Q (.lst (dh ds)):=yi
theorem ue {i:Int} {Q:D->Prop}:mN .isBool [.int i] Q↔Q (.bl false):=yr
theorem Kl {b:Bool} {Q:Bool->Prop}:wTv (.bl b) Q↔Q b:=yr
theorem HA {ds:List D} {Q:Bool->Prop}:wTv (.lst ds) Q↔Q (!ds.isEmpty):=yr
theorem HG {ds:List D} {i:Int} {Q:D->Prop}:wIx (.lst ds) (.int i) Q↔∃ d,L2.atI ds i = some d/\Q d:=cH
theorem jx {d:D} {ds:List D} {Q:D->Prop}:wIx (.tup (d::ds)) (.int 0) Q↔Q d:=by
 simp [wIx,ixD,L2.atI,L2.ixN]
theorem yk {ds:List D} {Q:List D->Prop}:wItems (.lst ds) Q↔Q ds:=yr
theorem yj {ds:List D} {Q:List D->Prop}:wItems (.tup ds) Q↔Q ds:=yr
noncomputable def iM (G:List Fd) (gl:List D) (n i:Nat) (ds:List D) (Q:D->Prop):Prop:=∃ d,PP.run G gl n i ds = some d/\Q d
noncomputable def retS (Q:D->Prop):Out->Prop
 | .rt d _=>Q d
 | .nx _=>Q .non
 | .ro d _=>Q d
theorem cE {G:List Fd} {gl:List D} {n i:Nat} {ds:List D} {P Q:D->Prop} (h:iM G gl n i ds P) (k:∀ d,P d->Q d):iM G gl n i ds Q:=by
 obtain ⟨d,e,p⟩:=h;exact ⟨d,e,k d p⟩
theorem bq {G:List Fd} {gl:List D} {n i:Nat} {ds:List D} {Q:D->Prop} (fd:Fd) (h:G[i]? = some fd) (hl:ds.length = fd.ps.length) (hf:fd.hf = false) (q:wSs ⟨PP.run G gl n,gl,hfs G⟩ fd.body (init (fd.ps++fd.loc).length ds) (retS Q)):iM G gl (n+1) i ds Q:=by
 obtain ⟨o,e,q⟩:=q;unfold iM
 have:PP.run G gl (n+1) i ds = outD (eV ⟨PP.run G gl n,gl,hfs G⟩ fd.body (init (fd.ps++fd.loc).length ds)):=by
  conv=>lhs;unfold PP.run
  rw [h];dsimp only;rw [if_pos hl,hf];rfl
 rw [this,e]
 cases o with
 | rt d δ=>exact ⟨d,rfl,q⟩
 | ro d δ=>exact ⟨d,rfl,q⟩
 | nx δ=>exact ⟨.non,rfl,q⟩
theorem Bq {G:List Fd} {gl:List D} {n f:Nat} {ds:List D} {Q:D->Prop}:mM ⟨PP.run G gl n,gl,hfs G⟩ f ds Q↔iM G gl n f ds Q:=cH
theorem Iz {Q:D->Prop} {d:D} {δ:Loc}:retS Q (.rt d δ)↔Q d:=cH
theorem HF {x:Str} {i:Int} {Q:D->Prop}:wIx (.str x) (.int i) Q↔x.length<=sizeLine/\∃ c,L2.atI x.cps.toList i = some c/\Q (.str ⟨#[c]⟩):=by
 unfold wIx ixD;dsimp only;constructor
 . rintro ⟨z,e,q⟩;split at e
   . rw [aG] at e;obtain ⟨c,e,rfl⟩:=e;exact ⟨‹_›,c,e,q⟩
   . cases e
 . rintro ⟨h,c,e,q⟩;exact ⟨_,by rw [if_pos h,e];rfl,q⟩
theorem bc {G:List Fd} {gl:List D} {n i:Nat} {ds:List D} {d:D} {Q:D->Prop} (h:PP.run G gl n i ds = some d):iM G gl n i ds Q↔Q d:=by
 unfold iM;rw [h];exact ⟨fun ⟨_,e,q⟩=>by cases e;exact q,fun q=>⟨d,rfl,q⟩⟩
theorem bu {G:List Fd} {gl:List D} {n i:Nat} {ds:List D} {d:D} (h:iM G gl n i ds fun x=>x = d):PP.run G gl n i ds = some d:=by
 obtain ⟨x,e,rfl⟩:=h;exact e
theorem nJ {α:Type} {ds:List α} {j:Int} (h0:0<=j) (h1:j < ds.length):∃ d,d∈ds/\L2.atI ds j = some d:=by
 have hk:j.toNat < ds.length:=by omega
 refine ⟨ds[j.toNat],ky hk,?_⟩;have:=L2.atI_nat (xs:=ds) (j:=j.toNat) (v:=ds[j.toNat]) (ax hk)
 rwa [show ((j.toNat:Nat):Int) = j by omega] at this
theorem mul_r {a b:Int} (h0:-(2 ^ 64) < b) (h1:b < 2 ^ 64):sX a b = true:=by
 unfold sX;simp only [decide_eq_true h0,decide_eq_true h1,cB,pI,iX]
theorem small {n:Nat} (h:n<=1000):n<=sizeLine:=jb (bV h (by decide))
theorem str_len (x:Str):x.cps.toList.length = x.length:=by
 show x.cps.toList.length = x.cps.size;simp
theorem uu {lo:Int} {n:Nat} {x:D} (h:x∈uv lo n):∃ i:Nat,i < n/\x = .int (lo+i):=by
 unfold uv at h;rw [aU] at h;obtain ⟨i,hi,rfl⟩:=h;exact ⟨i,by simpa using hi,rfl⟩
theorem mS {lo:Int} {n:Nat}:(uv lo n).length = n:=by simp [uv]
theorem DE {a b:D} {ds:List D} {Q:D->Prop}:wIx (.tup (a::b::ds)) (.int 1) Q↔Q b:=by
 have:L2.atI (a::b::ds) 1 = some b:=L2.atI_nat (j:=1) rfl;simp [wIx,ixD,this]
theorem DD {a b c:D} {ds:List D} {Q:D->Prop}:wIx (.tup (a::b::c::ds)) (.int 2) Q↔Q c:=by
 have:L2.atI (a::b::c::ds) 2 = some c:=L2.atI_nat (j:=2) rfl;simp [wIx,ixD,this]
theorem mI {δ:Loc} {i j:Nat} {a b:D} {Q:Loc->Prop}:wTg δ (.tp [i,j]) (.tup [a,b]) Q↔qx δ i (.val a) fun δ1=>qx δ1 j (.val b) Q:=by
 rw [Km];unfold qx;simp only [gq,yc,cw,nW,aa,decide_eq_true_eq];exact ⟨fun ⟨⟨_,h1,h2⟩,q⟩=>⟨h1,h2,q⟩,fun ⟨h1,h2,q⟩=>⟨⟨rfl,h1,h2⟩,q⟩⟩
noncomputable def SI:=av (@aP.{0,0}) (av (@fQ.{0,0}) (av (@fR.{0}) (av (@cC.{0}) (av (@bX.{0}) (av (@ay.{0}) (av (@aB.{0}) (av (@mG.{0}) (@List.replicate_zero.{0}))))))))
theorem WI:(∀ a b:Prop,(if True then a else b) = a)/\(∀ a b:Prop,(if False then a else b) = b)/\((false = true) = False)/\∀ (p:Prop) [Decidable p],(decide p = true) = p:=⟨fun _ _=>if_pos trivial,fun _ _=>if_neg id,by simp,fun p _=>by simp⟩
noncomputable def WS:=av (@NI) (av (@KL) (av (@NL) (av (@KD) (av (@KP) (av (@KN) (av (@Kq) (av (@KQ) (av (@KG) (av (@KH) (av (@Kr) (av (@NB) (av (@Kp) (av (@Ko) (av (@HB) (av (@KJ) (av (@KC) (av (@KI) (av (@NJ) (av (@NH) (av (@HL) (av (@KO) (av (@vL) (av (@HH) (av (@DI) (av (@ND) (av (@Kx) (av (@NG) (av (@Kz) (av (@Ky) (av (@NF) (av (@HK) (av (@qC) (av (@Ea) (av (@FP) (av (@FO) (av (@Dm) (av (@Be) (av (@Bd) (av (@Dt) (av (@yh) (av (@yg) (av (@Bk) (av (@Ds) (av (@Bg) (av (@Dk) (av (@Dl) (av (@Bn) (av (@DF) (av (@DG) (av (@Bl) (av (@Du) (av (@HI) (av (@mJ) (av (@dz) (av (@Kw) (av (@Kn) (av (@Kt) (av (@HE) (av (@KR) (av (@Ks) (av (@Dq) (av (@Ku) (av (@Bj) (av (@Bi) (av (@Dp) (av (@DC) (av (@Dv) (av (@Dx) (av (@Dy) (av (@Bm) (av (@DA) (av (@Dw) (av (@Dz) (av (@DB) (av (@HM) (av (@HN) (av (@DO) (av (@DN) (av (@vN) (av (@sE) (av (@Bu) (av (@DQ) (av (@Bw) (av (@DP) (av (@Br) (av (@Bt) (av (@Bs) (av (@vO) (av (@ue) (av (@Kl) (av (@HA) (av (@HG) (av (@jx) (av (@yk) (av (@yj) (av (@Bq) (av (@Iz) (av (@HF) (av (@MS) (av (@Av) (av (@xl) (av (@DE) (av (@DD) (av (@mI) (nX)))))))))))))))))))))))))))))))))))))))))))))))))))))))))))))))))))))))))))))))))))))))))))))))))))))))))
theorem tU {α:Type} (e:∀ i j,i < n->j < n->lt i j = lt' i j):∀ (t:PySem.W.KasT α),inR lt n t->ans lt t = ans lt' t
 | .ret a,_=>rfl
 | .ask i j k,h=>by
   unfold inR at h;rw [fE,fE,<- e i j h.1 h.2.1];exact tU e _ h.2.2
theorem sO {α β:Type} (d:α) (f:α->β) (xs:List α):(bD xs.length).map (fun i=>f (xs.getD i d)) = xs.map f:=by
 apply List.ext_getElem
 . simp
 . intro i h1 h2;simp only [aj] at h2;simp [mC,ax h2]
theorem vW {α:Type} [Inhabited α] (g:α->D) (lt:α->α->Bool) (hlt:∀ x y,kS (g x) (g y) = some (lt x y)) (as:∀ a b,lt a b = true->lt b a = false) (tr:∀ a b c,lt b a = false->lt c b = false->lt c a = false) (xs:List α) :
 ∃ ys:List α,dh (xs.map g) = ys.map g/\ys.Perm xs/\∀ i j,i<=j->j < ys.length->lt (ys.getD j default) (ys.getD i default) = false:=by
 have rf:∀ a,lt a a = false:=fun a=>by
  cases e:lt a a with
  | false=>rfl
  | true=>rw [as a a e] at e;cases e
 unfold dh;rw [aj];split
 . rename_i h;refine ⟨xs,rfl,List.Perm.refl _,fun i j h1 h2=>?_⟩;have:i = j:=by omega
   subst this;exact rf _
 . rename_i h
   have hg:∀ i,i < xs.length->(xs.map g).getD i .non = g (xs.getD i default):=fun i hi=>by
    simp [mC,ax hi]
   have e:ans (gB (xs.map g)) (PySem.W.kas_sort xs.length) = ans (fun i j=>lt (xs.getD i default) (xs.getD j default)) (PySem.W.kas_sort xs.length):=by
    refine tU (n:=xs.length) (fun i j hi hj=>?_) _ (zC (by omega));unfold gB;rw [hg i hi,hg j hj,hlt];rfl
   rw [e];obtain ⟨z,p,u⟩:=HW (lt:=fun i j=>lt (xs.getD i default) (xs.getD j default)) ⟨fun a b=>as _ _,fun a b c=>tr _ _ _⟩ xs.length (by omega);have pl:(ans (fun i j=>lt (xs.getD i default) (xs.getD j default)) (PySem.W.kas_sort xs.length)).toList.Perm (bD xs.length):=(letI:Tbs:=⟨[],[],[]⟩;fy _);generalize ans (fun i j=>lt (xs.getD i default) (xs.getD j default)) (PySem.W.kas_sort xs.length) = r at z p u pl ⊢;refine ⟨r.toList.map fun i=>xs.getD i default,?_,?_,fun i j h1 h2=>?_⟩
   . rw [pE];refine mH fun i hi=>?_;exact hg i (by simpa using pl.mem_iff.mp hi)
   . have:=pl.map fun i=>xs.getD i default
     rwa [show (bD xs.length).map (fun i=>xs.getD i default) = xs from by simpa using sO default id xs] at this
   . rw [aj,aZ,z] at h2
     have hr:∀ k,k < xs.length->(r.toList.map fun i=>xs.getD i default).getD k default = xs.getD (r.getD k 0) default:=fun k hk=>by
      have hk':k < r.toList.length:=by rw [aZ,z];exact hk
      have hk2:k < r.size:=by rw [z];exact hk
      simp [mC,hk2,kF]
     rw [hr i (by omega),hr j h2];exact u i j h1 h2
section
variable {cx:Cl} {δ:Loc}
theorem iJ {α:Type} (g:α->D) (p:α->Bool) (h:α->D):∀ (xs:List α),(∀ x∈xs,wTg (δ++aC k .no) tg (g x) fun δ2=>wG cx ifs δ2 fun b δ3=>b = p x/\if b = true then wE cx elt δ3 fun y δ4=>y = h x/\δ4.take δ.length = δ else δ3.take δ.length = δ) ->
 Q ((xs.filter p).map h) δ->lV cx k tg ifs elt (xs.map g) δ Q
 | [],_,q=>iI.mpr q
 | x::xs,hx,q=>by
   rw [aP,gM];obtain ⟨δ2,e,b,δ3,e2,rfl,e3⟩:=hx x ao;refine ⟨δ2,e,_,δ3,e2,?_⟩
   cases hp:p x with
   | true =>
     rw [hp,if_pos rfl] at e3;obtain ⟨y,δ4,e4,rfl,t⟩:=e3;rw [if_pos rfl];refine ⟨_,δ4,e4,?_⟩;show lV cx k tg ifs elt _ (δ4.take δ.length) _;rw [t];refine iJ g p h xs (fun z hz=>hx z (aq _ hz)) ?_;rw [xU hp] at q
     exact q
   | false =>
     rw [hp,if_neg au] at e3;rw [if_neg au,e3];refine iJ g p h xs (fun z hz=>hx z (aq _ hz)) ?_;rw [xV (by simp [hp])] at q;exact q
theorem mK {α:Type} (g:α->D) (P:List α->Loc->Prop) (step:∀ x xs δ,P (x::xs) δ->wTg δ tg (g x) fun δ2=>wSs cx body δ2 (wX (P xs) Q)) (fin:∀ δ,P [] δ->Q (.nx δ)) (xs:List α) (δ:Loc) (h:P xs δ):oe cx tg body (xs.map g) δ Q:=by
 induction xs generalizing δ with
 | nil=>exact gA.mpr (fin δ h)
 | cons x xs ih =>
   rw [aP,fx];obtain ⟨δ2,e,o,e2,q⟩:=step x xs δ h;refine ⟨δ2,e,o,e2,?_⟩
   cases o with
   | nx δ3=>exact ih δ3 q
   | rt d δ3=>exact q
   | ro d δ3=>exact q
end
noncomputable def ud (δ:Loc) (i:Nat) (Q:Nat->List D->Prop):Prop:=match δ[i]? with
 | some (.fnc k cs)=>Q k cs
 | _=>False
noncomputable def qz (δ:Loc) (caps:List Nat) (Q:List D->Prop):Prop:=∃ cs,lY δ caps = some cs/\Q cs
section
variable {cx:Cl} {δ:Loc}
theorem Bo {i:Nat} {t:Sl} {Q:Nat->List D->Prop}:ud (t::δ) (i+1) Q↔ud δ i Q:=by simp [ud]
theorem DH {k:Nat} {cs:List D} {Q:Nat->List D->Prop}:ud (.fnc k cs::δ) 0 Q↔Q k cs:=by simp [ud]
theorem Bp {Q:List D->Prop}:qz δ [] Q↔Q []:=by simp [qz,lY]
theorem ym {i:Nat} {r:List Nat} {Q:List D->Prop}:qz δ (i::r) Q↔uc δ i fun d=>flat d = true/\qz δ r fun cs=>Q (d::cs):=by
 unfold qz uc;constructor
 . rintro ⟨cs,e,q⟩;unfold lY at e
   cases h:PP.get δ i with
   | none=>rw [h] at e;cases e
   | some d =>
     rw [h] at e;dsimp only at e;split at e
     . rw [aG] at e;obtain ⟨x,e,rfl⟩:=e;exact ⟨d,rfl,‹_›,x,e,q⟩
     . cases e
 . rintro ⟨d,h,f,cs,e,q⟩;refine ⟨d::cs,?_,q⟩;unfold lY;rw [h];dsimp only;rw [if_pos f,e];rfl
theorem mZ:lfO o = some d↔o = some d/\lf d = true:=by
 cases o with
 | none=>simp [lfO]
 | some r =>
   unfold lfO;dsimp only;split
   . rename_i h;constructor
     . intro e;cases e;exact ⟨rfl,h⟩
     . intro e;exact e.1
   . rename_i h;constructor
     . intro e;cases e
     . rintro ⟨e,z⟩;cases e;exact absurd z h
theorem DK {i:Nat} {es:Es} {Q:D->Loc->Prop}:wE cx (.callv i es) δ Q↔ud δ i fun k cs=>wEs cx es δ fun ds δ1=>lfL ds = true/\mM cx k (ds++cs) fun z=>lf z = true/\Q z δ1:=by
 unfold wE wEs mM ud;simp only [evE,ah,ae,Prod.exists];constructor
 . rintro ⟨d,δ',⟨ds,δ1,h1,e⟩,q⟩;split at e
   . rename_i h
     (try rw [h])
     split at e
     . rw [aG] at e;obtain ⟨r,e,e2⟩:=e;cases e2;rw [mZ] at e;exact ⟨ds,_,h1,‹_›,d,e.1,e.2,q⟩
     . cases e
   . cases e
 . intro h;split at h
   . rename_i k cs hk;obtain ⟨ds,δ1,h1,h2,z,h3,h4,q⟩:=h;refine ⟨z,δ1,⟨ds,δ1,h1,?_⟩,q⟩
     (try rw [hk])
     (try dsimp only)
     rw [if_pos h2,mZ.mpr ⟨h3,h4⟩];rfl
   . exact h.elim
theorem DL {f i:Nat} {es:Es} {Q:D->Loc->Prop}:wE cx (.callF f es i) δ Q↔wEs cx es δ fun ds δ1=>ud δ1 i fun k cs=>cx.hf f = true/\mM cx f (ds++[.fn k cs]) fun z=>Q z δ1:=by
 unfold wE wEs mM ud;simp only [evE,ah,ae,Prod.exists];constructor
 . rintro ⟨d,δ',⟨ds,δ1,h1,e⟩,q⟩;refine ⟨ds,δ1,h1,?_⟩;split at e
   . rename_i h
     (try rw [h])
     split at e
     . rw [aG] at e;obtain ⟨r,e,e2⟩:=e;cases e2;exact ⟨‹_›,d,e,q⟩
     . cases e
   . cases e
 . rintro ⟨ds,δ1,h1,h⟩;split at h
   . rename_i k cs hk;obtain ⟨h2,z,h3,q⟩:=h;refine ⟨z,δ1,⟨ds,δ1,h1,?_⟩,q⟩
     (try rw [hk])
     (try dsimp only)
     rw [if_pos h2,h3];rfl
   . exact h.elim
theorem HC {f k:Nat} {es:Es} {caps:List Nat} {Q:Out->Prop}:wS cx (.retL f es k caps) δ Q↔wEs cx es δ fun ds δ1=>qz δ1 caps fun cs=>cx.hf f = true/\mM cx f (ds++[.fn k cs]) fun z=>lf z = true/\Q (.rt z δ1):=by
 unfold wS wEs mM qz;simp only [evS,ah,ae,Prod.exists];constructor
 . rintro ⟨o,⟨ds,δ1,h1,cs,h2,e⟩,q⟩;refine ⟨ds,δ1,h1,cs,h2,?_⟩;split at e
   . rw [aG] at e;obtain ⟨r,e,e2⟩:=e;cases e2;rw [mZ] at e;exact ⟨‹_›,r,e.1,e.2,q⟩
   . cases e
 . rintro ⟨ds,δ1,h1,cs,h2,h3,z,h4,h5,q⟩;refine ⟨_,⟨ds,δ1,h1,cs,h2,?_⟩,q⟩;rw [if_pos h3,mZ.mpr ⟨h4,h5⟩];rfl
end
theorem Bv:mN .toInt [.str x] Q↔x.length<=640/\∃ n,PySem.intText? x = some n/\Q (.int n):=by
 unfold mN;simp only [lj,qB];constructor
 . rintro ⟨z,e,q⟩;split at e
   . rw [aG] at e;obtain ⟨n,e1,rfl⟩:=e;exact ⟨‹_›,n,e1,q⟩
   . cases e
 . rintro ⟨h,n,e,q⟩;exact ⟨.int n,by rw [if_pos h,e];rfl,q⟩
theorem oa (fd:Fd) (h:G[i]? = some fd) (hl:ds.length = fd.ps.length) (hf:fd.hf = true) (he:entry true (fd.ps++fd.loc).length ds = some δ) (q:wSs ⟨PP.run G gl n,gl,hfs G⟩ fd.body δ (retS Q)):iM G gl (n+1) i ds Q:=by
 obtain ⟨o,e,q⟩:=q;unfold iM
 have:PP.run G gl (n+1) i ds = outD (eV ⟨PP.run G gl n,gl,hfs G⟩ fd.body δ):=by
  conv=>lhs;unfold PP.run
  rw [h];dsimp only;rw [if_pos hl,hf,he]
 rw [this,e]
 cases o with
 | rt d δ=>exact ⟨d,rfl,q⟩
 | ro d δ=>exact ⟨d,rfl,q⟩
 | nx δ=>exact ⟨.non,rfl,q⟩
noncomputable def WC:=av (@DK) (av (@DL) (av (@HC) (av (@Bo) (av (@DH) (av (@Bp) (@ym))))))
section
variable {cx:Cl} {δ:Loc}
theorem zp:wS cx (.forZ tg es body) δ Q↔wEs cx es δ fun ds δ1=>∃ x y xs ys,ds = [x,y]/\EC x = some xs/\EC y = some ys/\oe cx tg body (kJ xs ys) δ1 Q:=by
 unfold wS wEs oe MR;simp only [evS,ah,ae,Prod.exists];constructor
 . rintro ⟨o,⟨ds,δ1,h1,e⟩,q⟩;split at e
   . split at e
     . exact ⟨_,_,h1,_,_,_,_,rfl,‹_›,‹_›,o,e,q⟩
     . cases e
   . cases e
 . rintro ⟨ds,δ1,h1,x,y,xs,ys,rfl,e1,e2,o,e,q⟩;exact ⟨o,⟨_,_,h1,by dsimp only;rw [e1,e2];exact e⟩,q⟩
end
end PP
end
section
namespace PP
open PySem SetTable
noncomputable def lp (m:Nat) (x:Nat × Nat):Probe:={ j:=x.1,more:=runEnd m x.1 - x.1,i:=x.1,perturb:=x.2,dummy:=none }
noncomputable def adv (m:Nat) (p:Probe):Probe:=if p.more > 0 then { p with j:=p.j+1,more:=p.more - 1 } else
 { p with j:=(leap m p.i p.perturb).1,more:=runEnd m (leap m p.i p.perturb).1 - (leap m p.i p.perturb).1,i:=(leap m p.i p.perturb).1,perturb:=(leap m p.i p.perturb).2 }
theorem GV (t:cR) (p:Probe):t.advance p = adv t.mask p:=rfl
noncomputable def sq (m:Nat) (h:Int):Nat->Probe
 | 0=>lp m (bits h % (m+1),bits h)
 | n+1=>adv m (sq m h n)
noncomputable abbrev pbs (m:Nat) (h:Int) (n:Nat):Nat:=(sq m h n).j
noncomputable def itA (m:Nat):Nat->Probe->Probe
 | 0,p=>p
 | k+1,p=>itA m k (adv m p)
theorem xg (m:Nat):∀ (k:Nat) (p:Probe),itA m (k+1) p = adv m (itA m k p)
 | 0,p=>rfl
 | k+1,p=>xg m k (adv m p)
theorem ui (m:Nat) (h:Int) (n:Nat):∀ k,sq m h (n+k) = itA m k (sq m h n)
 | 0=>rfl
 | k+1=>by rw [xg,<- ui m h n k];rfl
theorem uS (m:Nat):∀ (a b:Nat) (p:Probe),itA m (a+b) p = itA m b (itA m a p)
 | 0,b,p=>by rw [zk];rfl
 | a+1,b,p=>by rw [oV];exact uS m a b (adv m p)
theorem sL {m i:Nat} (h:i<=m):runEnd m i<=m:=by unfold runEnd;split<;>lia
theorem wq (m i:Nat):runEnd m i - i<=9:=by unfold runEnd;split<;>lia
theorem sM (m i:Nat):i<=runEnd m i:=by unfold runEnd;split<;>lia
structure Pok (m:Nat) (p:Probe):Prop where
 i:p.i<=m
 m:p.j+p.more = runEnd m p.i
 n:p.more<=9
 q:p.perturb < 2 ^ 64
 d:p.dummy = none
theorem Pok.j {m:Nat} {p:Probe} (h:Pok m p):p.j<=m:=by have:=sL h.i;have:=h.m;lia
theorem JW (h:x.1<=m) (q:x.2 < 2 ^ 64):Pok m (lp m x):=⟨h,by show x.1+(runEnd m x.1 - x.1) = runEnd m x.1;have:=sM m x.1;lia,wq _ _,q,rfl⟩
theorem Ad (hq:q < 2 ^ 64):(leap m i q).1<=m/\(leap m i q).2 < 2 ^ 64:=by
 unfold leap;exact ⟨dq (ju _ (lB _)),bV (Nat.div_le_self _ _) hq⟩
theorem Nm (h:Pok m p):Pok m (adv m p):=by
 unfold adv;split
 . exact ⟨h.i,by have:=h.m;show p.j+1+(p.more - 1) = runEnd m p.i;lia,by have:=h.n;show p.more - 1<=9;lia,h.q,h.d⟩
 . have:=Ad (m:=m) (i:=p.i) h.q;have:=JW this.1 this.2;exact ⟨this.i,this.m,this.n,this.q,h.d⟩
theorem AJ (h:Int):bits h < 2 ^ 64:=by
 unfold bits;have h1:=bF h (show (2 ^ 64:Int)≠0 by decide);have h2:=bp h (show (0:Int) < 2 ^ 64 by decide)
 lia
theorem zA (m:Nat) (h:Int):∀ n,Pok m (sq m h n)
 | 0=>JW (dq (ju _ (lB _))) (AJ h)
 | n+1=>Nm (zA m h n)
theorem mQ (m:Nat):∀ (r:Nat) (p:Probe),p.more = r->p.dummy = none->itA m (r+1) p = lp m (leap m p.i p.perturb)
 | 0,p,h,d=>by
   show adv m p = _;unfold adv lp
   rw [if_neg (by lia),d]
 | r+1,p,h,d=>by
   show itA m (r+1) (adv m p) = _;unfold adv;rw [if_pos (by lia)];exact mQ m r _ (by show p.more - 1 = r;lia) d
noncomputable def kT (m:Nat):Nat->Nat × Nat->Nat × Nat
 | 0,x=>x
 | k+1,x=>kT m k (leap m x.1 x.2)
theorem wW (m:Nat):∀ (a b:Nat) (x:Nat × Nat),kT m (a+b) x = kT m b (kT m a x)
 | 0,b,x=>by rw [zk];rfl
 | a+1,b,x=>by rw [oV];exact wW m a b _
theorem JX (m:Nat):∀ (k:Nat) (x:Nat × Nat),∃ s,s<=10 * k/\itA m s (lp m x) = lp m (kT m k x)
 | 0,x=>⟨0,by lia,rfl⟩
 | k+1,x=>by
   obtain ⟨s,h1,h2⟩:=JX m k (leap m x.1 x.2);have h9:=wq m x.1;refine ⟨(runEnd m x.1 - x.1+1)+s,by lia,?_⟩;rw [uS,mQ m (runEnd m x.1 - x.1) (lp m x) rfl rfl];exact h2
theorem FJ (m:Nat):∀ (k:Nat) (x:Nat × Nat),(kT m k x).2 = x.2 / 32 ^ k
 | 0,x=>by simp [kT]
 | k+1,x=>by
   show (kT m k (leap m x.1 x.2)).2 = _;rw [FJ m k];show x.2 / 32 / 32 ^ k = _;rw [Nat.div_div_eq_div_mul,eX,Nat.mul_comm]
theorem FK (m:Nat):∀ (k:Nat) (x:Nat × Nat),x.1<=m->(kT m k x).1<=m
 | 0,x,h=>h
 | k+1,x,h=>FK m k _ (dq (ju _ (lB _)))
noncomputable def fit (m:Nat):Nat->Nat->Nat
 | 0,i=>i
 | c+1,i=>fit m c ((i * 5+1) % (m+1))
theorem qj (m:Nat):∀ (a b i:Nat),fit m (a+b) i = fit m b (fit m a i)
 | 0,b,i=>by rw [zk];rfl
 | a+1,b,i=>by rw [oV];exact qj m a b _
theorem FL (m:Nat):∀ (k i:Nat),kT m k (i,0) = (fit m k i,0)
 | 0,i=>rfl
 | k+1,i=>by
   show kT m k (leap m i 0) = _;unfold leap;exact FL m k _
noncomputable def mk (m:Nat):Prop:=m = 7\/m = 31\/m = 127
theorem Jy (h:mk m):fit m (m+1) 0 = 0/\∀ T,T < m+1->∃ c,c < m+1/\fit m c 0 = T:=by
 rcases h with rfl | rfl | rfl<;>exact ⟨by decide +kernel,by decide +kernel⟩
theorem Gx (h:mk m) (hi:i<=m) (hT:T<=m):∃ c,c<=m/\fit m c i = T:=by
 obtain ⟨h0,ha⟩:=Jy h;obtain ⟨a,a1,rfl⟩:=ha i (by lia);obtain ⟨b,b1,rfl⟩:=ha T (by lia);by_cases hab:a<=b
 . exact ⟨b - a,by lia,by rw [<- qj];congr 1;lia⟩
 . refine ⟨(m+1 - a)+b,by lia,?_⟩;rw [<- qj,show a+(m+1 - a+b) = (m+1)+b by lia,qj,h0]
theorem tj (h:mk m) (hi:x.1<=m) (hq:x.2 < 2 ^ 64) (hT:T<=m):∃ c,c<=m+13/\(kT m c x).1 = T:=by
 have q0:(kT m 13 x).2 = 0:=by
  rw [FJ];exact Nat.div_eq_of_lt (aW hq (by decide))
 obtain ⟨c,c1,e⟩:=Gx h (FK m 13 x hi) hT;refine ⟨13+c,by lia,?_⟩;rw [wW,show kT m 13 x = ((kT m 13 x).1,0) by rw [<- q0],FL];exact e
theorem cov (hm:mk m) (h:Int) (n:Nat) (hT:T<=m):∃ N,n<=N/\N < n+10 * turns m/\pbs m h N = T:=by
 have ok:=zA m h n;have lo:=Ad (m:=m) (i:=(sq m h n).i) ok.q;obtain ⟨c,c1,e⟩:=tj hm lo.1 lo.2 hT;obtain ⟨s,s1,e2⟩:=JX m c (leap m (sq m h n).i (sq m h n).perturb);have hn:=ok.n;refine ⟨n+((sq m h n).more+1+s),by lia,by unfold turns;lia,?_⟩;show (sq m h _).j = T;rw [ui,uS,mQ m _ _ rfl ok.d,e2];exact e
theorem rQ (xs:Array Nat) (hs:xs.toList.Pairwise (· < ·)) (j:Nat):∀ (f lo hi:Nat),hi - lo<=f->lo<=hi->hi<=xs.size->(∀ i (h:i < xs.size),i < lo->xs[i] < j)->(∀ i (h:i < xs.size),hi<=i->j<=xs[i]) ->
 below.go xs j f lo hi<=xs.size/\(∀ i (h:i < xs.size),i < below.go xs j f lo hi->xs[i] < j)/\∀ i (h:i < xs.size),below.go xs j f lo hi<=i->j<=xs[i]
 | 0,lo,hi,h1,h2,h3,h4,h5=>by
   have:hi = lo:=by omega
   subst this
   exact ⟨h3,h4,h5⟩
 | f+1,lo,hi,h1,h2,h3,h4,h5=>by
   have pw:=jw.mp hs;unfold below.go;by_cases hl:lo < hi
   . rw [if_pos hl];dsimp only;have hm:(lo+hi) / 2 < xs.size:=by omega
     have e:xs.getD ((lo+hi) / 2) j = xs[(lo+hi) / 2]:=by simp [kF,hm]
     rw [e];by_cases hc:xs[(lo+hi) / 2] < j
     . rw [if_pos hc];refine rQ xs hs j f _ hi (by omega) (by omega) h3 (fun i h hi'=>?_) h5;rcases dS i ((lo+hi) / 2) with z | z
       . have:=pw i ((lo+hi) / 2) (by simpa using h) (by simpa using hm) z;simp at this;omega
       . have:i = (lo+hi) / 2:=by omega
         subst this;exact hc
     . rw [if_neg hc];refine rQ xs hs j f lo _ (by omega) (by omega) (by omega) h4 fun i h hi'=>?_;rcases dS ((lo+hi) / 2) i with z | z
       . have:=pw ((lo+hi) / 2) i (by simpa using hm) (by simpa using h) z;simp at this;omega
       . have:i = (lo+hi) / 2:=by omega
         subst this;omega
   . rw [if_neg hl];exact ⟨by omega,h4,fun i h hi'=>h5 i h (by omega)⟩
theorem rP (xs:Array Nat) (hs:xs.toList.Pairwise (· < ·)) (j:Nat):below xs j<=xs.size/\(∀ i (h:i < xs.size),i < below xs j->xs[i] < j)/\∀ i (h:i < xs.size),below xs j<=i->j<=xs[i] :=
 rQ xs hs j xs.size 0 xs.size (by lia) (by lia) (by lia) (fun i h z=>by lia) fun i h z=>by lia
theorem below_at (hs:xs.toList.Pairwise (· < ·)) (h:xs[i]? = some j):below xs j = i:=by
 obtain ⟨hi,e⟩:=dD.mp h;obtain ⟨b1,b2,b3⟩:=rP xs hs j;have pw:=jw.mp hs;rcases pV (below xs j) i with z | z | z
 . have q:=b3 (below xs j) (by lia) (aA _);have:=pw (below xs j) i (by simp;lia) (by simpa using hi) z;simp at this
   lia
 . exact z
 . have:=b2 i hi z
   lia
structure TbI (t:cR) (hs:List Int):Prop where
 mok:mk t.mask
 dm:t.dummies = #[]
 srt:t.place.toList.Pairwise (· < ·)
 le:∀ j∈t.place.toList,j<=t.mask
 len:t.place.toList.length = hs.length
 few:hs.length<=t.mask
 rch:∀ (i j:Nat) (h:Int),t.place.toList[i]? = some j->hs[i]? = some h->∃ n,pbs t.mask h n = j/\∀ k < n,pbs t.mask h k∈t.place.toList
variable {t:cR} {hs:List Int}
theorem TbI.live (T:TbI t hs) (h:t.place.toList[i]? = some j):t.slot j = .live i:=by
 have h':t.place[i]? = some j:=by simpa using h
 unfold slot;rw [below_at T.srt h'];simp [h']
theorem TbI.empty (T:TbI t hs) (h:j∉t.place.toList):t.slot j = .empty:=by
 unfold slot
 have:t.place[below t.place j]?≠some j:=fun e=>h (by
  have:=ye e;exact Array.mem_toList_iff.mpr this)
 dsimp only;rw [if_neg (by simpa using this),T.dm];rfl
theorem rF {P:List Nat} {m:Nat} (hl:P.length<=m):∃ j,j<=m/\j∉P:=by
 apply fu;intro hn
 have hall:∀ j∈bD (m+1),j∈P:=fun j hj=>by
  apply fu;intro hp;exact hn ⟨j,by simpa using dq (by simpa using hj),hp⟩
 have key:∀ (l:List Nat) (P:List Nat),l.Nodup->(∀ x∈l,x∈P)->l.length<=P.length:=fun l=>by
  induction l with
  | nil=>intro P _ _;exact cu _
  | cons x l ih =>
    intro P hnd hs;have hx:=hs x ao;rw [bQ] at hnd;have:=ih (P.erase x) hnd.2 fun y hy=>(AX (fun e:y = x=>hnd.1 (by rw [<- e];exact hy))).mpr (hs y (aq _ hy));rw [vD hx] at this;have:=xZ hx;simp only [ay]
    lia
 have:=key _ P Ht hall;rw [gL] at this
 lia
theorem TbI.room (T:TbI t hs) (h:Int) (n:Nat):∃ N,n<=N/\N < n+10 * turns t.mask/\pbs t.mask h N∉t.place.toList:=by
 obtain ⟨j,h1,h2⟩:=rF (P:=t.place.toList) (m:=t.mask) (by rw [T.len];exact T.few);obtain ⟨N,a,b,rfl⟩:=cov T.mok h n h1;exact ⟨N,a,b,h2⟩
inductive PR (t:cR) (hs:List Int) (h:Int) (n:Nat):Met->Prop
 | empty (N:Nat) (a:n<=N) (b:pbs t.mask h N∉t.place.toList) (c:∀ k,n<=k->k < N->pbs t.mask h k∈t.place.toList/\∀ (i:Nat),t.place.toList[i]? = some (pbs t.mask h k)->hs[i]?≠some h):PR t hs h n (.empty (pbs t.mask h N) none)
 | cand (N i:Nat) (a:n<=N) (b:t.place.toList[i]? = some (pbs t.mask h N)) (d:hs[i]? = some h) (c:∀ k,n<=k->k < N->pbs t.mask h k∈t.place.toList/\∀ (i:Nat),t.place.toList[i]? = some (pbs t.mask h k)->hs[i]?≠some h):PR t hs h n (.candidate (pbs t.mask h N) i (sq t.mask h (N+1)))
theorem wC (T:TbI t hs) (h:Int) (hh:∀ i g,hs[i]? = some g->ha i = g):∀ (f n:Nat),(∃ N,n<=N/\N < n+f/\pbs t.mask h N∉t.place.toList)->∃ r,probe.go t ha h f (sq t.mask h n) = some r/\PR t hs h n r
 | 0,n,⟨N,a,b,_⟩=>by lia
 | f+1,n,⟨N,a,b,c⟩=>by
   unfold probe.go;by_cases hp:pbs t.mask h n∈t.place.toList
   . obtain ⟨i,hi⟩:=dP hp
     have hil:i < hs.length:=by
      have:=(aF.mp hi).1;rw [T.len] at this;exact this
     have eg:hs[i]? = some hs[i]:=ax hil;rw [T.live hi];dsimp only;rw [hh i _ eg];by_cases hc:hs[i] = h
     . rw [if_pos (by rw [hc];exact beq_self_eq_true h)];refine ⟨_,rfl,?_⟩;rw [GV];exact .cand n i (aA _) hi (by rw [eg,hc]) fun k h1 h2=>by lia
     . rw [if_neg (by simpa using hc),GV];have hN:n≠N:=fun e=>c (by rw [<- e];exact hp);obtain ⟨r,e,pr⟩:=wC T h hh f (n+1) ⟨N,by lia,by lia,c⟩;refine ⟨r,e,?_⟩
       have first:∀ k,n = k->pbs t.mask h k∈t.place.toList/\∀ (i':Nat),t.place.toList[i']? = some (pbs t.mask h k)->hs[i']?≠some h:=by
        rintro _ rfl;refine ⟨hp,fun i' hi'=>?_⟩;have:t.slot (pbs t.mask h n) = .live i':=T.live hi';rw [T.live hi] at this;cases this;rw [eg];intro z;exact hc (aY z)
       cases pr with
       | empty N' a b c'=>exact .empty N' (by lia) b fun k h1 h2=>if z:n = k then first k z else c' k (by lia) h2
       | cand N' i' a b d c'=>exact .cand N' i' (by lia) b d fun k h1 h2=>if z:n = k then first k z else c' k (by lia) h2
   . rw [T.empty hp];refine ⟨_,rfl,?_⟩;rw [(zA t.mask h n).d];exact .empty n (aA _) hp fun k h1 h2=>by lia
theorem EU (T:TbI t hs) (h:Int) (hh:∀ i g,hs[i]? = some g->ha i = g) (n:Nat):∃ r,t.probe ha h (sq t.mask h n) = some r/\PR t hs h n r:=wC T h hh _ n (T.room h n)
end PP
end
section
namespace PP
open PySem SetTable
variable {t:cR} {hs:List Int}
noncomputable def nk {α:Type} (l:List α) (p:Nat) (x:α):List α:=l.take p++x::l.drop p
theorem ni {α:Type} {l:List α} {p i:Nat} {x y:α} (hp:p<=l.length) (h:(nk l p x)[i]? = some y):(i < p/\l[i]? = some y)\/(i = p/\y = x)\/(p < i/\l[i - 1]? = some y):=by
 unfold nk at h;rcases pV i p with z | z | z
 . rw [aL (by rw [bG];lia),cY z] at h;exact .inl ⟨z,h⟩
 . subst z;rw [aS (by rw [bG];lia),bG,Kh hp,zm] at h;exact .inr (.inl ⟨rfl,by simpa using h.symm⟩)
 . rw [aS (by rw [bG];lia),bG,Kh hp] at h;obtain ⟨k,rfl⟩:∃ k,i = p+1+k:=⟨i - p - 1,by lia⟩;rw [show p+1+k - p = k+1 by lia,kz,List.getElem?_drop] at h;exact .inr (.inr ⟨z,by rw [show p+1+k - 1 = p+k by lia];exact h⟩)
theorem rA {α:Type} {l:List α} {p:Nat} {x y:α}:y∈nk l p x↔y∈l\/y = x:=by
 unfold nk;rw [br,aD]
 conv=>rhs;rw [<- ib p l,br]
 constructor
 . rintro (h | h | h)
   . exact .inl (.inl h)
   . exact .inr h
   . exact .inl (.inr h)
 . rintro ((h | h) | h)
   . exact .inl h
   . exact .inr (.inr h)
   . exact .inr (.inl h)
theorem nh {α:Type} (l:List α) (p:Nat) (x:α):(nk l p x).length = l.length+1:=by
 unfold nk;rw [ar,ay,bG,eF]
 lia
theorem TbI.put (T:TbI t hs) {h:Int} {N:Nat} (hf:pbs t.mask h N∉t.place.toList) (hr:∀ k < N,pbs t.mask h k∈t.place.toList) (fw:hs.length+1<=t.mask) :
 TbI (t.put (pbs t.mask h N)).1 (nk hs (t.put (pbs t.mask h N)).2 h)/\(t.put (pbs t.mask h N)).2<=hs.length/\(t.put (pbs t.mask h N)).1.led = t.led/\(t.put (pbs t.mask h N)).1.plain = t.plain/\(t.put (pbs t.mask h N)).1.mask = t.mask:=by
 generalize hj:pbs t.mask h N = j at *;have pl:(insertAt t.place (below t.place j) j).toList = nk t.place.toList (below t.place j) j:=toList_insertAt _ _ _;have dm:(if has t.dummies j = true then eraseAt t.dummies (below t.dummies j) else t.dummies) = #[]:=by rw [T.dm];rfl
 obtain ⟨b1,b2,b3⟩:=rP t.place T.srt j;have bl:below t.place j<=t.place.toList.length:=by simpa using b1
 have len:=T.len;refine ⟨⟨T.mok,dm,?_,?_,?_,?_,?_⟩,by rw [<- len];exact bl,rfl,rfl,rfl⟩
 . show (insertAt t.place (below t.place j) j).toList.Pairwise _;rw [pl];unfold nk;have pw:=T.srt;rw [<- ib (below t.place j) t.place.toList,AV] at pw;obtain ⟨p1,p2,p3⟩:=pw;refine AV.mpr ⟨p1,List.pairwise_cons.mpr ⟨fun y hy=>?_,p2⟩,fun x hx y hy=>?_⟩
   . obtain ⟨k,hk,e⟩:=fI.mp hy;rw [eF] at hk;rw [List.getElem_drop] at e;have:=b3 (below t.place j+k) (by simp at hk;lia) (by lia);have ne:j≠y:=fun z=>hf (by rw [z];exact lZ hy);simp at e
     lia
   . obtain ⟨k,hk,e⟩:=fI.mp hx;rw [bG] at hk;rw [List.getElem_take] at e;have:=b2 k (by simp at hk;lia) (by lia);simp at e;rcases aD.mp hy with z | z
     . lia
     . exact p3 x hx y z
 . show ∀ y∈(insertAt t.place (below t.place j) j).toList,_;rw [pl];intro y hy;rcases rA.mp hy with z | z
   . exact T.le y z
   . rw [z,<- hj];exact (zA t.mask h N).j
 . show (insertAt t.place (below t.place j) j).toList.length = _;rw [pl,nh,nh,len]
 . rw [nh];exact fw
 . show ∀ (i j':Nat) (h':Int),(insertAt t.place (below t.place j) j).toList[i]? = some j'->(nk hs (below t.place j) h)[i]? = some h'->∃ n,pbs t.mask h' n = j'/\∀ k < n,pbs t.mask h' k∈(insertAt t.place (below t.place j) j).toList;rw [pl];intro i j' h' e1 e2
   have old:∀ i',t.place.toList[i']? = some j'->hs[i']? = some h'->∃ n,pbs t.mask h' n = j'/\∀ k < n,pbs t.mask h' k∈nk t.place.toList (below t.place j) j:=fun i' a b=>by
    obtain ⟨n,n1,n2⟩:=T.rch i' j' h' a b;exact ⟨n,n1,fun k hk=>rA.mpr (.inl (n2 k hk))⟩
   rcases ni bl e1 with ⟨z,a⟩ | ⟨z,a⟩ | ⟨z,a⟩
   . rcases ni (by rw [<- len];exact bl) e2 with ⟨_,b⟩ | ⟨z',b⟩ | ⟨z',b⟩
     . exact old i a b
     . lia
     . lia
   . rcases ni (by rw [<- len];exact bl) e2 with ⟨z',b⟩ | ⟨z',b⟩ | ⟨z',b⟩
     . lia
     . subst a b;exact ⟨N,hj,fun k hk=>rA.mpr (.inl (hr k hk))⟩
     . lia
   . rcases ni (by rw [<- len];exact bl) e2 with ⟨z',b⟩ | ⟨z',b⟩ | ⟨_,b⟩
     . lia
     . lia
     . exact old (i - 1) a b
end PP
end
section
namespace PP
open PySem SetTable
structure OW (m:Nat) (owner:Array (Option Nat)) (pre:List Int) (js:List Nat):Prop where
 sz:owner.size = m+1
 jl:js.length = pre.length
 own:∀ k j:Nat,js[k]? = some j->owner[j]? = some (some k)
 inv:∀ j k:Nat,owner[j]? = some (some k)->js[k]? = some j
 rch:∀ (i j:Nat) (h:Int),pre[i]? = some h->js[i]? = some j->∃ n,pbs m h n = j/\∀ k < n,pbs m h k∈js
theorem FN (m:Nat):∀ (k:Nat) (p:Probe),k<=p.more->(itA m k p).j = p.j+k
 | 0,p,_=>rfl
 | k+1,p,h=>by
   show (itA m k (adv m p)).j = _;unfold adv;rw [if_pos (by lia),FN m k _ (by show k<=p.more - 1;lia)];show p.j+1+k = _
   lia
theorem Au (hz:owner.size = m+1) (h:Int):∀ (f n:Nat) (x:Nat × Nat),sq m h n = lp m x->x.1<=m->(∃ c,c < f/\owner[(kT m c x).1]? = some none) ->
 ∃ N,n<=N/\layClean.free m owner f x.1 x.2 = some (pbs m h N)/\owner[pbs m h N]? = some none/\∀ k,n<=k->k < N->∃ v,owner[pbs m h k]? = some (some v)
 | 0,n,x,e,hx,⟨c,h1,_⟩=>by lia
 | f+1,n,x,e,hx,⟨c,h1,h2⟩=>by
   have rl:=sL hx;have rg:=sM m x.1
   have pos:∀ k,k < runEnd m x.1+1 - x.1->pbs m h (n+k) = x.1+k:=fun k hk=>by
    show (sq m h (n+k)).j = _;rw [ui,e,FN m k _ (by show k<=runEnd m x.1 - x.1;lia)];rfl
   have val:∀ k,k < runEnd m x.1+1 - x.1->owner[x.1+k]? = some (owner.getD (x.1+k) (some 0)):=fun k hk=>by
    have:x.1+k < owner.size:=by lia
    simp [kF,this]
   unfold layClean.free
   cases q:(bD (runEnd m x.1+1 - x.1)).find? fun k=>(owner.getD (x.1+k) (some 0)).isNone with
   | some k =>
     rw [List.find?_range_eq_some] at q;obtain ⟨q1,q2,q3⟩:=q;have hk:k < runEnd m x.1+1 - x.1:=by simpa using q2
     refine ⟨n+k,by lia,by rw [pos k hk],?_,fun k' h1 h2=>?_⟩
     . rw [pos k hk,val k hk,dF.mp q1]
     . obtain ⟨d,rfl⟩:∃ d,k' = n+d:=⟨k' - n,by lia⟩;have:=q3 d (by lia);rw [pos d (by lia),val d (by lia)]
       cases z:owner.getD (x.1+d) (some 0) with
       | none=>rw [z] at this;cases this
       | some v=>exact ⟨v,rfl⟩
   | none =>
     rw [List.find?_eq_none] at q
     have occ:∀ k,k < runEnd m x.1+1 - x.1->∃ v,owner[x.1+k]? = some (some v):=fun k hk=>by
      have:=q k (by simpa using hk);rw [val k hk]
      cases z:owner.getD (x.1+k) (some 0) with
      | none=>rw [z] at this;exact absurd rfl this
      | some v=>exact ⟨v,rfl⟩
     have nxt:sq m h (n+(runEnd m x.1 - x.1+1)) = lp m (leap m x.1 x.2):=by
      rw [ui,e];exact mQ m _ (lp m x) rfl rfl
     cases c with
     | zero =>
       obtain ⟨v,hv⟩:=occ 0 (by lia);rw [show (kT m 0 x).1 = x.1+0 from rfl,hv] at h2
       cases h2
     | succ c =>
       obtain ⟨N,a1,a2,a3,a4⟩:=Au hz h f (n+(runEnd m x.1 - x.1+1)) (leap m x.1 x.2) nxt (dq (ju _ (lB _))) ⟨c,by lia,h2⟩;refine ⟨N,by lia,a2,a3,fun k h1 h2=>?_⟩;by_cases hk:k < n+(runEnd m x.1 - x.1+1)
       . obtain ⟨d,rfl⟩:∃ d,k = n+d:=⟨k - n,by lia⟩;rw [pos d (by lia)];exact occ d (by lia)
       . exact a4 k (by lia) h2
noncomputable def MB (m:Nat) (acc:Option (Array (Option Nat) × Nat)) (h:Int):Option (Array (Option Nat) × Nat):=do
 let (owner,k) <- acc
 let j <- layClean.free m owner (turns m) (bits h % (m+1)) (bits h)
 pure (owner.setIfInBounds j (some k),k+1)
theorem OW.js_le (W:OW m owner pre js) (h:j∈js):j<=m:=by
 obtain ⟨k,hk⟩:=dP h;have:=(dD.mp (W.own k j hk)).1;rw [W.sz] at this
 lia
theorem OW.occ (W:OW m owner pre js):(∃ v,owner[j]? = some (some v))↔j∈js :=
 ⟨fun ⟨v,hv⟩=>bB (W.inv j v hv),fun h=>by
   obtain ⟨k,hk⟩:=dP h;exact ⟨k,W.own k j hk⟩⟩
theorem FU (hm:mk m) (W:OW m owner pre js) (hl:pre.length<=m) (h:Int):∃ owner' js',MB m (some (owner,pre.length)) h = some (owner',pre.length+1)/\OW m owner' (pre++[h]) js':=by
 obtain ⟨T,hT,hn⟩:=rF (P:=js) (m:=m) (by rw [W.jl];exact hl);have hx:(bits h % (m+1),bits h).1<=m:=dq (ju _ (lB _));obtain ⟨c,c1,c2⟩:=tj hm hx (AJ h) hT
 have fr:owner[T]? = some none:=by
  have:T < owner.size:=by rw [W.sz];lia
  cases q:owner[T] with
  | none=>rw [bT this,q]
  | some v=>exact absurd (W.occ.mp ⟨v,by rw [bT this,q]⟩) hn
 obtain ⟨N,_,e,free,occ⟩:=Au W.sz h (turns m) 0 (bits h % (m+1),bits h) rfl hx ⟨c,by unfold turns;lia,by rw [c2];exact fr⟩;have hj:=(dD.mp free).1;refine ⟨owner.setIfInBounds (pbs m h N) (some pre.length),js++[pbs m h N],?_,⟨?_,?_,fun k j hk=>?_,fun j k hk=>?_,fun i j h' h1 h2=>?_⟩⟩
 . show (Option.bind (layClean.free m owner (turns m) (bits h % (m+1)) (bits h)) fun j=>some (owner.setIfInBounds j (some pre.length),pre.length+1)) = _;rw [e];rfl
 . rw [Array.size_setIfInBounds,W.sz]
 . rw [ar,ar,W.jl];rfl
 . rcases dS k js.length with z | z
   . rw [aL z] at hk;have ho:=W.own k j hk;rw [pK (fun e=>by rw [e,ho] at free;cases free)];exact ho
   . rw [aS z] at hk
     have k0:k - js.length = 0:=by
      rcases oU (k - js.length) with q | q
      . exact q
      . rw [cS (by simp;lia)] at hk;cases hk
     rw [k0] at hk;have:pbs m h N = j:=by simpa using hk
     rw [<- this,lO hj,show k = pre.length by have:=W.jl;lia]
 . by_cases z:pbs m h N = j
   . rw [<- z,lO hj] at hk;have:pre.length = k:=aY (aY hk);rw [<- this,<- W.jl,<- z];simp
   . rw [pK z] at hk;have:=W.inv j k hk;rw [aL (aF.mp this).1];exact this
 . rcases dS i pre.length with z | z
   . rw [aL z] at h1;rw [aL (by rw [W.jl];exact z)] at h2;obtain ⟨n,n1,n2⟩:=W.rch i j h' h1 h2;exact ⟨n,n1,fun k hk=>cJ _ (n2 k hk)⟩
   . rw [aS z] at h1;rw [aS (by rw [W.jl];exact z),W.jl] at h2
     have k0:i - pre.length = 0:=by
      rcases oU (i - pre.length) with q | q
      . exact q
      . rw [cS (by simp;lia)] at h1;cases h1
     rw [k0] at h1 h2;have a:h = h':=by simpa using h1
     have b:pbs m h N = j:=by simpa using h2
     subst a b;exact ⟨N,rfl,fun k hk=>cJ _ (W.occ.mp (occ k (cu _) hk))⟩
theorem Ae (hm:mk m):∀ (rest pre:List Int) (owner:Array (Option Nat)) (js:List Nat),OW m owner pre js->(pre++rest).length<=m->∃ owner' js',rest.foldl (MB m) (some (owner,pre.length)) = some (owner',(pre++rest).length)/\OW m owner' (pre++rest) js'
 | [],pre,owner,js,W,_=>⟨owner,js,by rw [bX];rfl,by rw [bX];exact W⟩
 | h::rest,pre,owner,js,W,hl=>by
   obtain ⟨o1,j1,e1,W1⟩:=FU hm W (by rw [ar] at hl;lia) h;have e:pre++h::rest = (pre++[h])++rest:=by simp
   rw [e] at hl ⊢;obtain ⟨o2,j2,e2,W2⟩:=Ae hm rest (pre++[h]) o1 j1 W1 hl;refine ⟨o2,j2,?_,W2⟩;rw [dN,e1];rw [ar,bP] at e2;exact e2
theorem Gv {α β:Type} {f:α->Option β}:∀ {l:List α},(∀ k∈l,(f k).isSome = true)->∀ i:Nat,(l.filterMap f)[i]? = (l[i]?).bind f
 | [],_,i=>by simp
 | x::l,h,i=>by
   obtain ⟨y,hy⟩:=gb.mp (h x ao);rw [jM hy]
   cases i with
   | zero=>simp [hy]
   | succ i=>simpa using Gv (fun k hk=>h k (aq _ hk)) i
theorem Jp {m:Nat} (hm:mk m) (fg mv:Nat) (led pn:Bool) (hs:Array Int) (hl:hs.size<=m):∃ t order,laid m fg mv led pn hs = some (t,order)/\order.toList.Perm (bD hs.size)/\TbI t (order.toList.filterMap (hs[·]?))/\t.led = led/\t.plain = pn/\t.mask = m:=by
 have W0:OW m (Hx (m+1) none) [] []:=by
  refine ⟨by simp,rfl,fun k j h=>by simp at h,fun j k h=>?_,fun i j h a b=>by simp at a⟩;rw [Array.getElem?_replicate] at h;split at h
  . cases h
  . cases h
 obtain ⟨owner,js,e,W⟩:=Ae hm hs.toList [] _ _ W0 (by simpa using hl);rw [cC] at W
 have ec:layClean m hs = some owner:=by
  unfold layClean;rw [<- Array.foldl_toList];show Option.map (·.1) (hs.toList.foldl (MB m) (some (Hx (m+1) none,0))) = _;rw [show (0:Nat) = ([]:List Int).length from rfl,e];rfl
 generalize hg:(fun j:Nat=>(owner.getD j none).map (j,·)) = g
 have gi:∀ (j:Nat) (p:Nat × Nat),g j = some p->p.1 = j/\js[p.2]? = some j:=fun j p h=>by
  rw [<- hg] at h;obtain ⟨k,hk,rfl⟩:=aG.mp h;refine ⟨rfl,W.inv j k ?_⟩;by_cases z:j < owner.size
  . simp [kF,z] at hk;rw [bT z,hk]
  . simp [kF,z] at hk
 have gj:∀ (j k:Nat),js[k]? = some j->g j = some (j,k):=fun j k h=>by
  have:=W.own k j h;obtain ⟨z,e⟩:=dD.mp this;rw [<- hg];simp [kF,z,e]
 have pl:((bD (m+1)).filterMap g).Pairwise fun a b=>a.1 < b.1/\a.2≠b.2:=by
  refine List.Pairwise.filterMap g (R:=(· < ·)) (fun a a' h b hb b' hb'=>?_) List.pairwise_lt_range;obtain ⟨a1,a2⟩:=gi a b hb;obtain ⟨b1,b2⟩:=gi a' b' hb';refine ⟨by rw [a1,b1];exact h,fun z=>?_⟩;rw [z,b2] at a2;have:=aY a2
  lia
 generalize hL:(bD (m+1)).filterMap g = L at pl
 have memL:∀ (j k:Nat),(j,k)∈L↔js[k]? = some j:=fun j k=>by
  rw [<- hL,nZ];constructor
  . rintro ⟨a,_,h⟩;obtain ⟨a1,a2⟩:=gi a _ h;rw [<- a1] at a2;exact a2
  . intro h;exact ⟨j,by have:=W.js_le (bB h);simp;lia,gj j k h⟩
 have po:(L.map (·.2)).Perm (bD hs.size):=by
  refine (List.perm_ext_iff_of_nodup ?_ Ht).mpr fun k=>?_
  . exact pD.mpr (pl.imp fun h=>h.2)
  . rw [aU,gK];have jl:js.length = hs.size:=by rw [W.jl];simp
    constructor
    . rintro ⟨⟨j,k'⟩,h,rfl⟩;have:=(aF.mp ((memL j k').mp h)).1
      lia
    . intro h;exact ⟨(js[k],k),(memL _ _).mpr (ax _),rfl⟩
 have len:L.length = hs.size:=by
  have:=po.length_eq;simpa using this
 have hsm:∀ k∈L.map (·.2),(hs[k]?).isSome = true:=fun k hk=>by
  have:=po.mem_iff.mp hk;rw [gK] at this;simp [this]
 have memP:∀ j,j∈L.map (·.1)↔j∈js:=fun j=>by
  rw [aU];constructor
  . rintro ⟨⟨j',k⟩,h,rfl⟩;exact bB ((memL _ _).mp h)
  . intro h;obtain ⟨k,hk⟩:=dP h;exact ⟨(j,k),(memL j k).mpr hk,rfl⟩
 refine ⟨{ mask:=m,place:=(L.map (·.1)).toArray,dummies := #[],finger:=fg,led:=led,moves:=mv,plain:=pn },(L.map (·.2)).toArray,?_,po,⟨hm,rfl,?_,fun j hj=>W.js_le ((memP j).mp hj),?_,?_,fun i j h h1 h2=>?_⟩,rfl,rfl,rfl⟩
 . unfold laid;rw [ec];show some _ = _;rw [hg,hL]
 . exact pD.mpr (pl.imp fun h=>h.1)
 . show (L.map (·.1)).length = _;rw [aj,len];have:=congrArg AY (show (L.map (·.2)).filterMap (hs[·]?) = (L.map (·.2)).filterMap (hs[·]?) from rfl)
   have key:∀ l:List Nat,(∀ k∈l,(hs[k]?).isSome = true)->(l.filterMap (hs[·]?)).length = l.length:=fun l=>by
    induction l with
    | nil=>intro _;rfl
    | cons x l ih =>
      intro h;obtain ⟨y,hy⟩:=gb.mp (h x ao);rw [jM hy,ay,ay,ih fun k hk=>h k (aq _ hk)]
   rw [key _ hsm,aj,len]
 . have key:∀ l:List Nat,(l.filterMap (hs[·]?)).length<=l.length:=fun l=>List.length_filterMap_le _ _;have:=key (L.map (·.2));rw [aj,len] at this;exact aX this hl
 . have h1':(L.map (·.1))[i]? = some j:=h1;rw [Gv hsm] at h2;rw [bj] at h1' h2
   cases q:L[i]? with
   | none=>rw [q] at h1';cases h1'
   | some p =>
     rw [q] at h1' h2;obtain ⟨j',k⟩:=p;have e1:j' = j:=by simpa using h1'
     subst e1;have e2:hs[k]? = some h:=by simpa using h2
     obtain ⟨n,n1,n2⟩:=W.rch k j' h (by simpa using e2) ((memL j' k).mp (bB q));exact ⟨n,n1,fun k' hk'=>(memP _).mpr (n2 k' hk')⟩
end PP
end
section
namespace PP
open PySem L2 PyProof.Rows PySem.SeqAt
mutual
noncomputable def hD (w:bf):D->Int
 | .str x=>hashStr w x
 | .int i=>hashInt i
 | .tup ds=>reduceHash (cj (hDL w ds))
 | _=>0
noncomputable def hDL (w:bf):List D->List Int
 | []=>[]
 | d::ds=>hD w d::hDL w ds
end
mutual
noncomputable def nD:D->Nat
 | .tup ds=>nDL ds+1
 | _=>1
noncomputable def nDL:List D->Nat
 | []=>0
 | d::ds=>nD d+nDL ds
end
variable [Tbs]
section
variable {prog:aR} {w:bf}
theorem DY {A:ba} {E:af->ai->Prop} {s:ai} {a:aw} {its:Array af} {hs:List Int} {k:Nat} {Q:Int->ai->Prop} (hu:A.units < cLine) (ht:s.heap.IsTuple a its)
 (loop:∀ (Q':Array Int->ai->Prop) (E':af->ai->Prop),(∀ b:Array Int,b.toList = hs->Q' b { s with toks:=s.toks+k })->wpAny (model prog w) A.in1 (forIn its.toList (#[]:Array Int) fun x b=>do
   let h <- pyHash x
   pure (.yield (b.push h))) Q' E' s)
 (h:Q (reduceHash (cj hs)) { s with toks:=s.toks+(k+1) }):wpAny (model prog w) A (pyHash (.ref a)) Q E s:=by
 obtain ⟨o,ho,hc,n,hd⟩:=ht;have hT:s.TypeIs (.ref a) "tuple":=⟨o,ho,hc⟩;unfold pyHash
 first | unfold pyHashByItsType | skip
 first | refine ab (wpAny_cRoomFor_or (.inr hu) ?_) | skip
 refine ab (jq hT PySem.F.slot_tuple_hash.lookup ?_);show wpAny _ _ (if (some (Value.builtin "tuple.__hash__") == some cn) = true then _ else _) Q E s;rw [if_neg (by rw [beq_builtin_none];exact au)];refine ab (jq hT PySem.F.slot_tuple_hash.lookup ?_);show wpAny _ _ (callSpecialIfBoundUnlessNone? (.ref a) "__hash__" _ >>= _) Q E s;refine ab (wpAny_callSpecialIfBoundUnlessNone?_slot hT PySem.F.slot_tuple_hash (bM PySem.F.slot_tuple_hash hT PySem.F.entry_tuple_hash ?_ (PySem.F.args_tuple_hash_1 _)));show wpAny _ _ (nS (.ref a) >>= _) _ _ s;refine ab (wpAny_tupleItemsOf ho hd ?_);refine ab ?_;rw [<- jc];refine loop _ _ fun b hb=>?_;show wpAny _ _ (retInt (cj b.toList)) _ _ _;rw [hb];refine wpAny_ret_mkInt ?_;show wpAny _ _ (if (decide (-(2:Int) ^ 63<=cj hs) && decide (cj hs < 2 ^ 63)) = true then _ else _) Q E _;unfold reduceHash at h;by_cases hr:(decide (-(2:Int) ^ 63<=cj hs) && decide (cj hs < 2 ^ 63)) = true
 . rw [if_pos hr];rw [if_pos hr] at h;exact ak (by simpa [xS] using h)
 . rw [if_neg hr];rw [if_neg hr] at h;exact ab (gQ (ak (by simpa [xS] using h)))
mutual
theorem Gp:∀ (d:D) (A:ba) (E:af->ai->Prop) (s:ai) (v:af) (Q:Int->ai->Prop),hb d = true->RdV s.heap d v->A.units+dep d < cLine->Q (hD w d) { s with toks:=s.toks+nD d }->wpAny (model prog w) A (pyHash v) Q E s
 | .str x,A,E,s,v,Q,_,r,_,q=>by
   unfold RdV at r;obtain ⟨t,rfl⟩:=r;unfold hD nD at q
   exact wpAny_pyHash_str q
 | .int x,A,E,s,v,Q,_,r,_,q=>by
   unfold RdV at r;obtain ⟨t,rfl⟩:=r;unfold hD nD at q
   exact wpAny_pyHash_int q
 | .tup ds,A,E,s,v,Q,h,r,hu,q=>by
   unfold RdV at r;obtain ⟨a,its,rfl,ht,rl⟩:=r;unfold hb at h;unfold hD nD at q;unfold dep at hu;refine DY (hs:=hDL w ds) (k:=nDL ds) (by lia) ht (fun Q' E' q'=>?_) q
   exact Ao ds A.in1 E' s its.toList #[] Q' h rl (by show A.units+1+bZ ds < cLine;lia) (by simpa using q')
 | .non,_,_,_,_,_,h,_,_,_=>by unfold hb at h;cases h
 | .bl _,_,_,_,_,_,h,_,_,_=>by unfold hb at h;cases h
 | .lst _,_,_,_,_,_,h,_,_,_=>by unfold hb at h;cases h
 | .fn _ _,_,_,_,_,_,h,_,_,_=>by unfold hb at h;cases h
theorem Ao:∀ (ds:List D) (A:ba) (E:af->ai->Prop) (s:ai) (vs:List af) (b0:Array Int) (Q:Array Int->ai->Prop),hbL ds = true->RdL s.heap ds vs->A.units+bZ ds < cLine ->
 (∀ b:Array Int,b.toList = b0.toList++hDL w ds->Q b { s with toks:=s.toks+nDL ds })->wpAny (model prog w) A (forIn vs b0 fun x b=>do
   let h <- pyHash x
   pure (.yield (b.push h))) Q E s
 | [],A,E,s,vs,b0,Q,_,r,_,q=>by
   unfold RdL at r;subst r;unfold hDL nDL at q
   exact ak (q b0 (by simp))
 | d::ds,A,E,s,vs,b0,Q,h,r,hu,q=>by
   unfold RdL at r;obtain ⟨u,us,rfl,r1,r2⟩:=r;unfold hbL at h;rw [aa] at h;unfold bZ at hu;unfold hDL nDL at q;rw [ff];refine ab (ab (Gp d A E s u _ h.1 r1 (by lia) (ak ?_)));refine Ao ds A E _ us _ Q h.2 r2 (by lia) fun b hb=>?_;have:=q b (by rw [hb];simp);simpa [xS] using this
end
end
end PP
end
section
namespace PP
open PySem L2 PyProof.Rows PySem.SeqAt
variable [Tbs]
section
variable {prog:aR} {w:bf} {A:ba} {E:af->ai->Prop}
theorem og (ht:s.heap.IsTuple a its) (h:Q (some its) s):wpAny (model prog w) A (seqItems? (.ref a)) Q E s:=by
 obtain ⟨o,ho,hc,n,hd⟩:=ht;exact dv ho hd h
mutual
theorem uy:∀ (d:D) (n:Nat) (s:ai) (v:af) (Q:Bool->ai->Prop),hb d = true->RdV s.heap d v->dep d<=n->Q true s->wpAny (model prog w) A (eqIsQuiet n v) Q E s
 | .str x,n,s,v,Q,_,r,_,q=>by
   unfold RdV at r;obtain ⟨t,rfl⟩:=r;rw [Nz n rfl]
   exact ak q
 | .int x,n,s,v,Q,_,r,_,q=>by
   unfold RdV at r;obtain ⟨t,rfl⟩:=r;rw [Nz n rfl]
   exact ak q
 | .tup ds,0,s,v,Q,h,r,hu,q=>by unfold dep at hu;lia
 | .tup ds,n+1,s,v,Q,h,r,hu,q=>by
   unfold RdV at r;obtain ⟨a,its,rfl,ht,rl⟩:=r;unfold hb at h;unfold dep at hu;have ht':=ht;obtain ⟨o,ho,hc,k,hd⟩:=ht';have hT:s.TypeIs (.ref a) "tuple":=⟨o,ho,hc⟩;unfold eqIsQuiet;refine ab (jq hT PySem.F.slot_tuple_eq.lookup ?_);show wpAny _ _ (isInstance (.ref a) (.type "tuple") >>= _) _ _ s;refine ab (lQ hT isSubtype_tuple_tuple ?_);simp only [dA,aO,if_false];refine ab (og ht ?_);refine ab ?_;show wpAny _ _ (forIn its _ _) _ _ s;rw [<- jc];refine wy ds n s its.toList _ h rl (by lia) ?_
   exact ak q
 | .non,_,_,_,_,h,_,_,_=>by unfold hb at h;cases h
 | .bl _,_,_,_,_,h,_,_,_=>by unfold hb at h;cases h
 | .lst _,_,_,_,_,h,_,_,_=>by unfold hb at h;cases h
 | .fn _ _,_,_,_,_,h,_,_,_=>by unfold hb at h;cases h
theorem wy:∀ (ds:List D) (n:Nat) (s:ai) (vs:List af) (Q:Option Bool × Unit->ai->Prop),hbL ds = true->RdL s.heap ds vs->bZ ds<=n->Q (none,()) s ->
 wpAny (model prog w) A (forIn vs ((none,()):Option Bool × Unit) fun y r=>do
  if (!(<- eqIsQuiet n y)) = true then pure (.done (some false,())) else pure (.yield (none,()))) Q E s
 | [],n,s,vs,Q,_,r,_,q=>by
   unfold RdL at r;subst r
   exact ak q
 | d::ds,n,s,vs,Q,h,r,hu,q=>by
   unfold RdL at r;obtain ⟨u,us,rfl,r1,r2⟩:=r;unfold hbL at h;rw [aa] at h;unfold bZ at hu;rw [ff];refine ab (ab (uy d n s u _ h.1 r1 (by lia) ?_));simp only [dA,aO,if_false];exact ak (wy ds n s us Q h.2 r2 (by lia) q)
end
mutual
theorem uz:∀ (d:D) (n:Nat) (s:ai) (v:af) (Q:Bool->ai->Prop),hb d = true->RdV s.heap d v->dep d<=n->Q false s->wpAny (model prog w) A (ofAClassStatement n v) Q E s
 | .str x,n,s,v,Q,_,r,_,q=>by
   unfold RdV at r;obtain ⟨t,rfl⟩:=r;unfold ofAClassStatement
   exact ak q
 | .int x,n,s,v,Q,_,r,_,q=>by
   unfold RdV at r;obtain ⟨t,rfl⟩:=r;unfold ofAClassStatement
   exact ak q
 | .tup ds,0,s,v,Q,h,r,hu,q=>by unfold dep at hu;lia
 | .tup ds,n+1,s,v,Q,h,r,hu,q=>by
   unfold RdV at r;obtain ⟨a,its,rfl,ht,rl⟩:=r;unfold hb at h;unfold dep at hu;have ht':=ht;obtain ⟨o,ho,hc,k,hd⟩:=ht';have hT:s.TypeIs (.ref a) "tuple":=⟨o,ho,hc⟩;unfold ofAClassStatement;refine ab (sk hT ?_);dsimp only;rw [if_pos (by decide)];refine ab (ak ?_);simp only [dA,aO,if_false];refine ab (og ht ?_);dsimp only;refine ab ?_;show wpAny _ _ (forIn its _ _) _ _ s;rw [<- jc];refine wF ds n s its.toList _ h rl (by lia) ?_
   exact ak q
 | .non,_,_,_,_,h,_,_,_=>by unfold hb at h;cases h
 | .bl _,_,_,_,_,h,_,_,_=>by unfold hb at h;cases h
 | .lst _,_,_,_,_,h,_,_,_=>by unfold hb at h;cases h
 | .fn _ _,_,_,_,_,h,_,_,_=>by unfold hb at h;cases h
theorem wF:∀ (ds:List D) (n:Nat) (s:ai) (vs:List af) (Q:Option Bool × Unit->ai->Prop),hbL ds = true->RdL s.heap ds vs->bZ ds<=n->Q (none,()) s ->
 wpAny (model prog w) A (forIn vs ((none,()):Option Bool × Unit) fun y r=>do
  if (<- ofAClassStatement n y) = true then pure (.done (some true,())) else pure (.yield (none,()))) Q E s
 | [],n,s,vs,Q,_,r,_,q=>by
   unfold RdL at r;subst r
   exact ak q
 | d::ds,n,s,vs,Q,h,r,hu,q=>by
   unfold RdL at r;obtain ⟨u,us,rfl,r1,r2⟩:=r;unfold hbL at h;rw [aa] at h;unfold bZ at hu;rw [ff];refine ab (ab (uz d n s u _ h.1 r1 (by lia) ?_));simp only [aO,if_false];exact ak (wF ds n s us Q h.2 r2 (by lia) q)
end
theorem eZ (h:hok d = true):hb d = true/\dep d<=8/\∃ x ds,d = .tup (.str x::ds):=by
 unfold hok at h;split at h
 . rename_i x ds;rw [aa,decide_eq_true_eq] at h;refine ⟨by simp [hb,hbL,h.1],?_,x,ds,rfl⟩;have:dep (.str x) = 0:=by unfold dep;rfl
   unfold dep bZ
   lia
 . cases h
theorem Am (h:hok d = true):dep d < 100000:=by
 obtain ⟨_,h2,_⟩:=eZ h
 lia
theorem qh (k:hok d = true) (r:RdV h d v):∃ a,v = .ref a:=by
 obtain ⟨_,_,x,ds,rfl⟩:=eZ k;unfold RdV at r;obtain ⟨a,its,rfl,_⟩:=r;exact ⟨a,rfl⟩
theorem CG (k:hok d = true) (r:RdV s.heap d v) (q:Q false s):wpAny (model prog w) A (hashByValue 8 v) Q E s:=by
 obtain ⟨_,_,x,ds,rfl⟩:=eZ k;unfold RdV at r;obtain ⟨a,its,rfl,ht,rl⟩:=r;unfold RdL at rl;obtain ⟨u,us,eu,r1,_⟩:=rl;unfold RdV at r1;obtain ⟨t,rfl⟩:=r1;have ht':=ht;obtain ⟨o,ho,hc,n,hd⟩:=ht';have hT:s.TypeIs (.ref a) "tuple":=⟨o,ho,hc⟩;unfold hashByValue;refine ab (jq hT PySem.F.slot_tuple_hash.lookup ?_);show wpAny _ _ (seqItems? (.ref a) >>= _) _ _ s;refine ab (og ht ?_);refine ab ?_;show wpAny _ _ (forIn its _ _) _ _ s;rw [<- jc,eu,ff];refine ab (ab (gf (a:=false) (by unfold hashByValue;rfl) ?_));simp only [tY,if_true];exact ak (ak (ak q))
end
end PP
end
section
namespace PP
open PySem L2 PyProof.Rows
theorem Jm (t:cR) (es:Array (Int × af)) (h:Int) (x:af):(layNew t es h x).2.1.led = t.led:=by
 unfold layNew;split
 . dsimp only;unfold SetTable.orStandIn;split<;>rfl
 . rfl
theorem Ci (t:cR) (es:Array (Int × af)) (m:Nat):(relayAll t es m).2.1.led = t.led:=by
 unfold relayAll;split
 . rename_i t' order h;dsimp only;split
   . unfold CM SetTable.laid at h;simp only [ah,ae,dM] at h;obtain ⟨_,_,e⟩:=h;cases e;rfl
   . rfl
 . rfl
theorem wD (t:cR) (es:Array (Int × af)) (m:Nat) (hp:t.plain = false):(relayAll t es m).2.1.plain = false:=by
 unfold relayAll;split
 . rename_i t' order h;dsimp only;split
   . unfold CM SetTable.laid at h;simp only [ah,ae,dM] at h;obtain ⟨_,_,e⟩:=h;cases e;exact hp
   . rfl
 . rfl
noncomputable def yZ (P:aR) (w:bf) (us:List Str) (es:List (Int × af)):Prop:=ElemsOf (strKind P w) es/\Paired (fun (u:Str) (e:Int × af)=>∃ tk,e.2 = .str u tk) us es
noncomputable def oN (P:aR) (w:bf) (a:aw) (ts:List Str) (h:bK):Prop:=∃ (es:Array (Int × af)) (ep:Nat) (t:cR) (us:List Str),
 h.get? a = some { cls:=.type "set",dict:=none,data:=.set es ep t,slots := #[] }/\t.fits es.size = true/\t.led = (!w.params.followText "set-order")/\(es.size = 0\/t.plain = false)/\us.Perm ts/\yZ P w us es.toList
section
variable {prog:aR} {w:bf} {A:ba} {E:af->ai->Prop} {s:ai}
theorem isStr_of:(strKind prog w).is x (.str u tk) = decide (u = x):=by
 show vz x (.str u tk) = _;unfold vz;by_cases h:u = x
 . subst h;simp
 . simp [h]
theorem find_none:∀ {us:List Str} {es:List (Int × af)},Paired (fun (u:Str) (e:Int × af)=>∃ tk,e.2 = .str u tk) us es->(es.findIdx? (fun e=>(strKind prog w).is x e.2) = none↔x∉us)
 | _,_,.nil=>by simp
 | _,_,.cons (a:=u) (b:=e) r t=>by
   obtain ⟨tk,hr⟩:=r;rw [CZ,hr,isStr_of,aD];by_cases h:u = x
   . subst h;simp
   . simp [h,find_none (x:=x) t,Ne.symm h]
theorem tH (h:yZ prog w us es) (p:Hv es' es):∃ us',us'.Perm us/\yZ prog w us' es':=by
 obtain ⟨h1,h2⟩:=h
 suffices q:∀ {es' es:List (Int × af)},Hv es' es->∀ us,Paired (fun (u:Str) (e:Int × af)=>∃ tk,e.2 = .str u tk) us es->∃ us',us'.Perm us/\Paired (fun (u:Str) (e:Int × af)=>∃ tk,e.2 = .str u tk) us' es' by
  obtain ⟨us',p',r⟩:=q p us h2;exact ⟨us',p',h1.perm p,r⟩
 intro es' es p
 induction p with
 | nil=>intro us r;exact ⟨us,.refl _,r⟩
 | cons x _ ih =>
   intro us r
   cases r with
   | cons r t =>
     obtain ⟨us',p',r'⟩:=ih _ t
     exact ⟨_,p'.cons _,.cons r r'⟩
 | swap x y l =>
   intro us r
   cases r with
   | cons r1 t =>
     cases t with
     | cons r2 t=>exact ⟨_,.swap _ _ _,.cons r2 (.cons r1 t)⟩
 | trans _ _ i1 i2 =>
   intro us r;obtain ⟨u1,p1,r1⟩:=i2 us r;obtain ⟨u2,p2,r2⟩:=i1 u1 r1;exact ⟨u2,p2.trans p1,r2⟩
theorem Cs (h:yZ prog w us es) (x:Str) (tk:Tok):yZ prog w (us++[x]) (es++[((strKind prog w).hash x,.str x tk)]):=by
 refine ⟨h.1.push (isStr_of.trans (decide_eq_true rfl)) rfl,?_⟩
 have:∀ {us:List Str} {es:List (Int × af)},Paired (fun (u:Str) (e:Int × af)=>∃ tk,e.2 = .str u tk) us es->Paired (fun (u:Str) (e:Int × af)=>∃ tk,e.2 = .str u tk) (us++[x]) (es++[((strKind prog w).hash x,.str x tk)]):=by
  intro us es r
  induction r with
  | nil=>exact .cons ⟨tk,rfl⟩ .nil
  | cons r _ ih=>exact .cons r ih
 exact this h.2
theorem kY {us:List Str} {es:List (Int × af)} (h:yZ prog w us es):es.length = us.length:=by
 have r:=h.2;clear h
 induction r with
 | nil=>rfl
 | cons _ _ ih=>simp [ih]
theorem qa {a:aw} {es es':Array (Int × af)} {ep:Nat} {t t':cR} {h:bK} (g:h.get? a = some { cls:=.type "set",dict:=none,data:=.set es ep t,slots := #[] }) :
 (h.update a (lA es' t')).get? a = some { cls:=.type "set",dict:=none,data:=.set es' (ep+1) t',slots := #[] }:=fj (lA es' t') g rfl
theorem set_tail {g:Bool->Sem Unit} (hg:∀ (b:Bool) (s1:ai) (Q':Unit->ai->Prop),Q' () s1->wpAny (model prog w) A (g b) Q' E s1) {a:aw} {es es1:Array (Int × af)} {ep:Nat} {t t2:cR} {ts us1:List Str}
 (k:s.heap.get? a = some { cls:=.type "set",dict:=none,data:=.set es ep t,slots := #[] }) (e1:yZ prog w us1 es1.toList) (q1:us1.Perm ts) (z:ts.length < scanBound) (f2:t2.fits es1.size = true) (l2:t2.led = (!w.params.followText "set-order")) (p2:t2.plain = false)
 {dm:Bool} {R:Option Bool->ai->Prop} (h:∀ h',dy a s.heap h'->oN prog w a ts h'->R (some true) { s with heap:=h' }) :
 wpAny (model prog w) A (do
  storeSet a es1 t2
  if (!dm && t2.tooFull) = true then do
   g (relayAll t2 es1 (aM es1.size)).2.2
   storeSet a (relayAll t2 es1 (aM es1.size)).1 (relayAll t2 es1 (aM es1.size)).2.1
   pure (some true)
  else pure (some true)) R E s:=by
 have z1:es1.size < scanBound:=by rw [<- aZ,kY e1,q1.length_eq];exact z
 have k1:=qa (es':=es1) (t':=t2) k;have sb1:=bJ s.heap a (lA es1 t2);refine ab (kG k rfl ?_ (kH z1));split
 . have pr:=relayAll_perm t2 es1 (aM es1.size);have fr:=relayAll_fits t2 es1 (aM es1.size);have lr:=Ci t2 es1 (aM es1.size);have nr:=wD t2 es1 (aM es1.size) p2;generalize relayAll t2 es1 (aM es1.size) = L at pr fr lr nr ⊢;obtain ⟨es2,t3,gv⟩:=L;dsimp only at pr fr lr nr ⊢;obtain ⟨us2,q2,e2⟩:=tH e1 pr;have z2:es2.size < scanBound:=by rw [<- aZ,kY e2,(q2.trans q1).length_eq];exact z
   refine ab (hg _ _ _ (ab (kG k1 rfl (ak (h _ (sb1.trans (bJ _ a _)) ?_)) (kH z2))));exact ⟨es2,_,t3,us2,qa k1,fr,lr.trans l2,.inr nr,q2.trans q1,e2⟩
 . exact ak (h _ sb1 ⟨es1,_,t2,us1,k1,f2,l2,.inr p2,q1,e1⟩)
theorem wj (hS:oN prog w a ts s.heap) (hr:ts.length+1 < scanBound)
 (fin:∀ b h',dy a s.heap h'->oN prog w a (if x∈ts then ts else ts++[x]) h'->Q b { s with heap:=h',toks:=s.toks+1 }) :
 wpAny (model prog w) A (setAdd a (.str x tk)) Q E s:=by
 obtain ⟨es,ep,t,us,g,hf,hl,hp,hu,he⟩:=hS;have hsz:es.size = ts.length:=by rw [<- aZ,kY he,hu.length_eq]
 have hk:(strKind prog w).is x (.str x tk) = true:=isStr_of.trans (decide_eq_true rfl);unfold setAdd;refine bO (ab ((strKind prog w).pyHash hk ?_))
 (unfold setAddHashed setAddHashedIn)
 refine bO (ab (cm (s:={ s with toks:=s.toks+1 }) g rfl hf ?_));dsimp only;rw [byScan_of rfl (by lia) he.1];simp only [↓reduceIte];unfold setAddByScan;refine ab (ab (gQ (ab (wpAny_setScan_of (s:={ s with toks:=s.toks+1 }) hk g rfl hf he.1 ?_))));have hfn:=find_none (prog:=prog) (w:=w) (x:=x) he.2
 cases hi:List.findIdx? (fun e=>(strKind prog w).is x e.2) es.toList with
 | some j =>
   have hm:x∈ts:=by
    apply fu;intro z;rw [hfn.mpr fun z'=>z (hu.mem_iff.mp z')] at hi;cases hi
   rw [if_pos hm] at fin
   exact ak (ak (fin false s.heap (vB a s.heap) ⟨es,ep,t,us,g,hf,hl,hp,hu,he⟩))
 | none =>
   have hm:x∉ts:=fun z=>(hfn.mp hi) (hu.mem_iff.mpr z);rw [if_neg hm] at fin;dsimp only;have p1:=layNew_perm t es ((strKind prog w).hash x) (.str x tk);have f1:=layNew_fits t es ((strKind prog w).hash x) (.str x tk);have l1:=Jm t es ((strKind prog w).hash x) (.str x tk);generalize layNew t es ((strKind prog w).hash x) (.str x tk) = L at p1 f1 l1 ⊢;obtain ⟨es1,t1,dm,gv⟩:=L;dsimp only at p1 f1 l1 ⊢;rw [oW] at p1;obtain ⟨us1,q1,e1⟩:=tH (Cs he x tk) p1;have q1':us1.Perm (ts++[x]):=q1.trans (hu.append (.refl _));have z1:es1.size = ts.length+1:=by rw [<- aZ,kY e1,q1'.length_eq];simp
   have gw:∀ (b:Bool) {s1:ai} {Q':Unit->ai->Prop},Q' () s1->wpAny (model prog w) A (match b with | true=>rule "set.scan.the-table-gave-way" | false=>pure ()) Q' E s1:=fun b s1 Q' q=>by
    cases b
    . exact ak q
    . exact gQ q
   refine ab (gw _ ?_);have gw':∀ (b:Bool) (s1:ai) (Q':Unit->ai->Prop),Q' () s1->wpAny (model prog w) A (match b with | true=>rule "set.scan.the-table-gave-way" | false=>pure ()) Q' E s1:=fun b s1 Q' q=>gw b q;have zz:(ts++[x]).length < scanBound:=by rw [ar,bP];exact hr
   split
   . refine ab (gf (hashByValue_scannable 8 rfl) ?_);refine set_tail (s:={ s with toks:=s.toks+1 }) (t2:={ t1 with plain:=false }) gw' g e1 q1' zz (SetTable.fits_plain_off f1) (l1.trans hl) rfl ?_;exact fun h' hs hx=>ak (fin true h' hs hx)
   . rename_i np;refine ab (ak ?_);refine set_tail (s:={ s with toks:=s.toks+1 }) (t2:=t1) gw' g e1 q1' zz f1 (l1.trans hl) (by simpa using np) ?_;exact fun h' hs hx=>ak (fin true h' hs hx)
theorem GW (hS:oN prog w a ts s.heap) (hr:ts.length+1 < scanBound)
 (h:∀ h',dy a s.heap h'->oN prog w a (if x∈ts then ts else ts++[x]) h'->Q .none { s with heap:=h',toks:=s.toks+1 }) :
 wpAny (model prog w) A (call (.builtin "set.add") [.ref a,.str x tk]) Q E s:=by
 have g:∃ o,s.heap.get? a = some o/\o.cls = .type "set":=by
  obtain ⟨es,ep,t,us,g,_⟩:=hS;exact ⟨_,g,rfl⟩
 refine bM PySem.F.slot_set_add g PySem.F.entry_set_add ?_ (PySem.F.args_set_add_2 _ _);unfold eQ.«set.add» Builtin.Frozenset.oneOther;simp only [kx,bind_assoc];unfold mD;refine ab (ak (ab (ak (ab (wj hS hr fun b h' hs hx=>?_)))));exact ak ⟨_,rfl,h h' hs hx⟩
end
end PP
end
section
namespace PP
open PySem L2 PyProof.Rows PySem.SeqAt
mutual
theorem gE:∀ (a b:D),hb a = true->hb b = true->(eqD a b = true↔a = b)
 | .str x,.str y,_,_=>by unfold eqD;simp
 | .int x,.int y,_,_=>by unfold eqD;simp
 | .tup xs,.tup ys,h1,h2=>by
   unfold hb at h1 h2;unfold eqD;rw [xo xs ys h1 h2]
   simp
 | .str _,.int _,_,_ | .str _,.tup _,_,_ | .int _,.str _,_,_ | .int _,.tup _,_,_ | .tup _,.str _,_,_ | .tup _,.int _,_,_=>by unfold eqD;simp
 | .non,_,h,_ | .bl _,_,h,_ | .lst _,_,h,_ | .fn _ _,_,h,_=>by unfold hb at h;cases h
 | _,.non,_,h | _,.bl _,_,h | _,.lst _,_,h | _,.fn _ _,_,h=>by unfold hb at h;cases h
theorem xo:∀ (a b:List D),hbL a = true->hbL b = true->(gy a b = true↔a = b)
 | [],[],_,_=>by unfold gy;simp
 | [],_::_,_,_=>by unfold gy;simp
 | _::_,[],_,_=>by unfold gy;simp
 | x::xs,y::ys,h1,h2=>by
   unfold hbL at h1 h2;rw [aa] at h1 h2;unfold gy;rw [aa,gE x y h1.1 h2.1,xo xs ys h1.2 h2.2];simp
end
variable [Tbs]
noncomputable def Nt (w:bf) (h:bK) (ds:List D) (es:List (Int × af)):Prop:=Paired (fun (d:D) (e:Int × af)=>e.1 = hD w d/\hok d = true/\RdV h d e.2) ds es
theorem qT {α β:Type} {R:α->β->Prop} {xs:List α} {ys:List β} (h:Paired R xs ys):∀ (i:Nat) (y:β),ys[i]? = some y->∃ x,xs[i]? = some x/\R x y:=by
 induction h with
 | nil=>intro i y e;simp at e
 | cons r _ ih =>
   intro i y e
   cases i with
   | zero=>simp at e;exact ⟨_,rfl,e▸r⟩
   | succ i=>exact ih i y (by simpa using e)
theorem qS {α β:Type} {R:α->β->Prop} {xs:List α} {ys:List β} (h:Paired R xs ys):∀ (i:Nat) (x:α),xs[i]? = some x->∃ y,ys[i]? = some y/\R x y:=by
 induction h with
 | nil=>intro i y e;simp at e
 | cons r _ ih =>
   intro i y e
   cases i with
   | zero=>simp at e;exact ⟨_,rfl,e▸r⟩
   | succ i=>exact ih i y (by simpa using e)
section
variable {prog:aR} {w:bf} {A:ba} {E:af->ai->Prop} {s:ai}
theorem Lr (hx:hok d = true) (rx:RdV s.heap d x) (q:Q false s):∀ (vs:List af),(∀ v∈vs,∃ e,hok e = true/\RdV s.heap e v)->wpAny (model prog w) A (searchCouldBeSeen x vs) Q E s:=by
 intro vs hv;obtain ⟨hb1,hd1,_⟩:=eZ hx;unfold searchCouldBeSeen;refine ab ?_;refine wpAny_forIn_list _ (fun rest r s'=>r = (none,())/\s' = s/\∀ v∈rest,∃ e,hok e = true/\RdV s.heap e v) _ ?_ ?_ _ _ ⟨rfl,rfl,hv⟩
 . rintro y rest r s' ⟨rfl,rfl,hall⟩;obtain ⟨e,he,re⟩:=hall y ao;obtain ⟨hb2,hd2,_⟩:=eZ he;have hr:∀ v∈rest,∃ e,hok e = true/\RdV s'.heap e v:=fun v hv=>hall v (aq _ hv);obtain ⟨b,rfl⟩:=qh hx rx;obtain ⟨c,rfl⟩:=qh he re;dsimp only;by_cases hc:(b == c || carriedByValue (.ref b) && carriedByValue (.ref c)) = true
   . rw [if_pos hc];refine ak ?_;exact ⟨rfl,rfl,hr⟩
   . rw [if_neg hc];refine ab (uy d 8 s' _ _ hb1 rx hd1 ?_);simp only [dA,aO,if_false];refine ab (uy e 8 s' _ _ hb2 re hd2 ?_);simp only [dA,aO,if_false];refine ab (uz d 8 s' _ _ hb1 rx hd1 ?_);simp only [aO,if_false];refine ab (uz e 8 s' _ _ hb2 re hd2 ?_);simp only [aO,if_false];refine ak ?_;exact ⟨rfl,rfl,hr⟩
 . rintro r s' ⟨rfl,rfl,_⟩;exact ak q
theorem fits_of {t:cR} {hs:List Int} (T:TbI t hs) {n:Nat} (h:hs.length = n):t.fits n = true:=by
 have h1:t.place.size = n:=by rw [<- h,<- T.len];simp
 unfold SetTable.fits rY;rw [T.dm,h1];have:=T.few;simp
 lia
theorem Mr {m:Nat} (h:mk m):(m % 2 == 0) = false:=by rcases h with rfl | rfl | rfl<;>rfl
theorem ED {a:aw} {es:Array (Int × af)} {ep:Nat} {t:cR} {ds:List D} {d:D} {x:af} {Q:SetFound->ai->Prop} (hu:A.units+20 < cLine)
 (g:s.heap.get? a = some { cls:=.type "set",dict:=none,data:=.set es ep t,slots := #[] }) (T:TbI t (es.toList.map (·.1))) (he:Nt w s.heap ds es.toList) (hx:hok d = true) (rx:RdV s.heap d x)
 (there:d∈ds->Q (.there none) s) (free:d∉ds->∀ N,pbs t.mask (hD w d) N∉t.place.toList->(∀ k < N,pbs t.mask (hD w d) k∈t.place.toList)->Q (.free (pbs t.mask (hD w d) N) false) s) :
 wpAny (model prog w) A (setSearch a x (hD w d) (adding:=true)) Q E s:=by
 have hf:t.fits es.size = true:=fits_of T (by simp);have hsi:∀ (i:Nat) (e:Int × af),es.toList[i]? = some e->(es.toList.map (·.1))[i]? = some e.1:=fun i e z=>by rw [bj,z];rfl
 obtain ⟨N0,_,n2,n3⟩:=T.room (hD w d) 0
 have hT0:10 * SetTable.turns t.mask < 100000:=by
  unfold SetTable.turns;rcases T.mok with z | z | z<;>rw [z]<;>decide
 obtain ⟨hb1,hd1,_⟩:=eZ hx
 have main:∀ (f n:Nat) (st:Option SetTable.Probe),st.getD (t.probeStart (hD w d)) = sq t.mask (hD w d) n->n<=N0->N0 - n < f->(∀ k < n,pbs t.mask (hD w d) k∈t.place.toList) ->
  (∀ (i k:Nat),k < n->t.place.toList[i]? = some (pbs t.mask (hD w d) k)->ds[i]?≠some d)->wpAny (model prog w) A (setSearchFrom a x (hD w d) true f st) Q E s:=by
  intro f
  induction f with
  | zero=>intro n st _ _ z;lia
  | succ f ih =>
    intro n st hst hn hf' hr hv;unfold setSearchFrom;refine ab (cm g rfl hf ?_);dsimp only;rw [if_neg (by show ¬ (t.mask % 2 == 0) = true;rw [Mr T.mok];exact au),hst]
    obtain ⟨r,er,pr⟩:=EU T (hD w d) (ha:=fun i=>(es[i]?.map (·.1)).getD 0) (fun i h z=>by
     rw [bj] at z;obtain ⟨e,e1,e2⟩:=aG.mp z;have:es[i]? = some e:=by simpa using e1
     simp [this,e2]) n
    generalize hp:t.probe _ (hD w d) (sq t.mask (hD w d) n) = pr';have hp':pr' = some r:=hp.symm.trans er;subst hp'
    cases pr with
    | empty N a b c =>
      refine ak (free (fun hm=>?_) N b fun k hk=>?_)
      . obtain ⟨i,hi⟩:=dP hm;obtain ⟨e,e1,e2,_,_⟩:=qS he i d hi
        have hl:i < t.place.toList.length:=by
         rw [T.len,aj];exact (aF.mp e1).1
        have ej:=ax hl;have eh:(es.toList.map (·.1))[i]? = some (hD w d):=by rw [hsi i e e1,e2]
        obtain ⟨n0,m1,m2⟩:=T.rch i _ _ ej eh;rw [<- m1] at ej;rcases dS n0 n with z | z
        . exact hv i n0 z ej hi
        . rcases pV n0 N with y | y | y
          . exact (c n0 z y).2 i ej eh
          . rw [y] at ej;exact b (bB ej)
          . exact b (m2 N y)
      . rcases dS k n with z | z
        . exact hr k z
        . exact (c k z hk).1
    | cand N i aN b e c =>
      rw [bj] at e;obtain ⟨ei,e1,e2⟩:=aG.mp e;obtain ⟨di,d1,d2,d3,d4⟩:=qT he i ei e1;obtain ⟨hb2,hd2,_⟩:=eZ d3;have e1':es[i]? = some ei:=by simpa using e1
      have hN:N+1<=N0:=by
       rcases dS N N0 with z | z
       . exact z
       . rcases oT z with y | y
         . exact absurd (c N0 hn y).1 n3
         . exact absurd (by rw [y];exact bB b) n3
      have hall:∀ v∈List.map (fun x=>x.snd) (Array.filter (fun x=>x.fst == hD w d) es).toList,∃ e,hok e = true/\RdV s.heap e v:=fun v hv=>by
       obtain ⟨y,hy,rfl⟩:=aU.mp hv;rw [Array.toList_filter] at hy;obtain ⟨k,hk⟩:=dP (lD.mp hy).1;obtain ⟨q,_,_,q1,q2⟩:=qT he k y hk;exact ⟨q,q1,q2⟩
      have go:wpAny (model prog w) A (setSearchFrom a x (hD w d) true f (some (sq t.mask (hD w d) (N+1)))) Q E s\/di = d:=by
       by_cases z:di = d
       . exact .inr z
       . refine .inl (ih (N+1) (some (sq t.mask (hD w d) (N+1))) rfl hN (by lia) (fun k hk=>?_) fun i' k hk h1 h2=>?_)
         . rcases dS k n with y | y
           . exact hr k y
           . rcases oT (dq hk) with y' | y'
             . exact (c k y y').1
             . rw [y'];exact bB b
         . rcases dS k n with y | y
           . exact hv i' k y h1 h2
           . obtain ⟨e',q1,q2,_⟩:=qS he i' d h2;have eh:(es.toList.map (·.1))[i']? = some (hD w d):=by rw [hsi i' e' q1,q2]
             rcases oT (dq hk) with y' | y'
             . exact (c k y y').2 i' h1 eh
             . rw [y'] at h1;have l1:=T.live h1;rw [T.live b] at l1;cases l1;rw [d1] at h2;exact z (aY h2)
      dsimp only;split
      all_goals
       try
        refine ab (Lr hx rx ?_ _ hall);simp only [aO,if_false]
       rw [e1'];dsimp only;refine ab (bO (rH di d A s ei.2 x d4 rx (by lia) prog w E _ ?_));refine ab (cm g rfl hf ?_);dsimp only;rcases go with go | go
       . by_cases hq:eqD di d = true
         . rw [hq];simp only [cB,if_true];exact ak (there (by rw [<- (gE di d hb2 hb1).mp hq];exact bB d1))
         . rw [dQ.mpr hq,if_neg (by decide)];rw [show t.sameMemory t.moves t.mask = some true by unfold SetTable.sameMemory;simp];dsimp only;rw [if_pos rfl,T.live b];dsimp only;rw [e1'];dsimp only;refine ab (gf (a:=true) (by obtain ⟨c,hc⟩:=qh d3 d4;rw [hc];unfold isSame;simp) ?_);exact ab (ak go)
       . have hq:eqD di d = true:=(gE di d hb2 hb1).mpr go;rw [hq];simp only [cB,if_true];exact ak (there (by rw [<- go];exact bB d1))
 exact main 100000 0 none rfl (by lia) (by lia) (fun k hk=>by lia) fun i k hk=>by lia
end
end PP
end
section
namespace PP
open PySem L2 PyProof.Rows
theorem Cv {E:af->ai->Prop} (hn:n≠0) (h:∀ i,i < n->Q i { s with drawn:=s.drawn.bump src }):wpAny M A (choose src n) Q E s :=
 fun Γ p hΓ=>⟨hn,h _ (ju _ (Nat.pos_of_ne_zero hn))⟩
theorem mw {α:Type}:∀ {xs:List α} {i:Nat} {x:α},xs[i]? = some x->xs.Perm (x::xs.eraseIdx i)
 | [],i,x,h=>by simp at h
 | y::ys,0,x,h=>by simp at h;subst h;exact .refl _
 | y::ys,i+1,x,h=>by
   have:=mw (xs:=ys) (i:=i) (by simpa using h);exact (this.cons y).trans (.swap _ _ _)
theorem wL {E:af->ai->Prop} {α:Type}:∀ (n:Nat) (xs:List α) (s:ai) (Q:List α->ai->Prop),xs.length = n->(∀ ys d,ys.Perm xs->Q ys { s with drawn:=d })->wpAny M A (drawOrder n xs) Q E s
 | 0,xs,s,Q,hl,h=>by
   have:xs = []:=gF.mp hl;subst this
   exact ak (h [] s.drawn (.refl _))
 | n+1,[],s,Q,hl,h=>by simp at hl
 | n+1,x::xs,s,Q,hl,h=>by
   unfold drawOrder;refine ab (Cv (by simp) fun i hi=>?_);have e:(x::xs)[i]? = some (x::xs)[i]:=ax hi;have pe:=mw e;rw [e];dsimp only;refine ab (wL n _ _ _ ?_ fun ys d p=>ak ?_)
   . rw [tV hi];simp at hl ⊢;exact hl
   . exact h _ d ((p.cons _).trans pe.symm)
theorem zQ {α:Type} (f:Nat->Nat):∀ (n k:Nat) (left:List α) (out:Array α),left.length = n->(su f n k left out).toList.Perm (out.toList++left)
 | 0,k,left,out,hl=>by
   have:left = []:=gF.mp hl;subst this
   simp [su]
 | n+1,k,left,out,hl=>by
   have hi:f k % left.length < left.length:=ju _ (by lia);have e:left[f k % left.length]? = some left[f k % left.length]:=ax hi;have pe:=mw e;unfold su;rw [e];dsimp only;refine (zQ f n (k+1) _ _ (by rw [tV hi];lia)).trans ?_;rw [oW,jI];exact (List.Perm.refl _).append pe.symm
theorem sQ {α:Type} (f:Nat->Nat) (xs:Array α):(pickOrder f xs).toList.Perm xs.toList:=by
 have:=zQ f xs.size 0 xs.toList #[] (by simp);simpa [pickOrder] using this
theorem lG:Slot "set_iterator" "__next__" "set_iterator.__next__" :=
 .of (owner:="set_iterator") (n:="__next__") (by rw [typeLookup_type,Ho];kernel_rfl) (by decide +kernel) (by decide +kernel) (by decide +kernel) (by first | exact .inl (by decide +kernel) | exact .inr (by decide +kernel)) (by rw [zf];kernel_rfl)
theorem xp:entryFor table "set_iterator.__next__" = some eQ.«set_iterator.__next__»:=entryFor_of_tree (by kernel_rfl)
theorem AL (a:af):argsOk "set_iterator.__next__" ⟨[a],[]⟩:=by unfold argsOk;kernel_rfl
theorem GA:entryFor table "set.__iter__" = some eQ.«frozenset.__iter__»:=entryFor_alias (id':="frozenset.__iter__") (by kernel_rfl) rfl (by decide +kernel) (by kernel_rfl)
theorem Ct:entryFor table "set_iterator.__iter__" = some eQ.«dict_keyiterator.__iter__»:=entryFor_alias (id':="dict_keyiterator.__iter__") (by kernel_rfl) rfl (by decide +kernel) (by kernel_rfl)
theorem GS (a:af):argsOk "set_iterator.__iter__" ⟨[a],[]⟩:=by unfold argsOk;kernel_rfl
theorem we:Slot "set_iterator" "__iter__" "set_iterator.__iter__" :=
 .of (owner:="set_iterator") (n:="__iter__") (by rw [typeLookup_type,Ho];kernel_rfl) (by decide +kernel) (by decide +kernel) (by decide +kernel) (by first | exact .inl (by decide +kernel) | exact .inr (by decide +kernel)) (by rw [zf];kernel_rfl)
section
variable {prog:aR} {w:bf} {A:ba} {E:af->ai->Prop} {s:ai}
noncomputable def itO (first:af) (i:Nat) (a:aw) (n ep:Nat):Obj:={ cls:=.type "set_iterator",data:=.fields #[first,.int i 0,.ref a,.int n 0,.int ep 0] }
theorem FX (g:s.heap.get? a = some { cls:=.type "set",dict:=none,data:=.set es ep t,slots := #[] }) (hf:t.fits es.size = true)
 (hd:(w.params.followText "set-order" = true\/es.size<=1)->Q (.ref s.heap.objs.size) { s with heap:=s.heap.push (itO (.int 0 0) 0 a es.size ep) })
 (hn:w.params.followText "set-order" = false->∀ (ps:List Nat) d,ps.Perm (bD es.size) ->
   Q (.ref (s.heap.objs.size+1)) { s with drawn:=d,heap:=(s.heap.push { cls:=.type "tuple",data:=.seq (ps.map fun (i:Nat)=>rawInt i).toArray }).push (itO (.ref s.heap.objs.size) 0 a es.size ep) })
 (hz:es.size < 1000) (hp:es.size = 0\/t.plain = false):wpAny (model prog w) A (pyIter (.ref a)) Q E s:=by
 refine Nw (T:="set") ⟨_,g,rfl⟩ PySem.F.slot_set_iter (bM PySem.F.slot_set_iter ⟨_,g,rfl⟩ GA ?_ (PySem.F.args_set_iter_1 _));unfold eQ.«frozenset.__iter__» Builtin.Frozenset.slot0 mD Builtin.Frozenset.sizeOf;simp only [slotArgs,kx,dA,aO,if_false,aB,bne_self_eq_false,pure_bind,bind_assoc];refine ab (pS g rfl hf ?_);unfold setDrawn setsByText;simp only [bind_assoc,pure_bind];refine ab (cm g rfl hf (ab (dJ ?_)));have sn:typeLookup (.type "set_iterator") (fV "__next__") = pure (some (.builtin "set_iterator.__next__")):=lG.lookup
 cases hb:w.params.followText "set-order" with
 | true =>
   rw [show ((model prog w).w.params.followText "set-order") = true from hb];simp only [dA,Bool.false_and,aO,if_false]
   refine ab (sr g rfl hf (ab (bt (ak ⟨_,rfl,"set_iterator",_,⟨_,aE _ rfl,rfl⟩,sn,hd (.inl hb)⟩))))
 | false =>
   rw [show ((model prog w).w.params.followText "set-order") = false from hb];split
   . refine ab (wL _ _ _ _ (by simp) fun ps d p=>?_);have hl:ps.length = es.size:=by rw [p.length_eq];simp
     unfold newTuple;refine ab (bt ?_ (by show (ps.map fun (i:Nat)=>rawInt i).toArray.size<=sizeLine;rw [bR];simp;lia));refine ab (sr (s:={ s with drawn:=d,heap:=s.heap.push { cls:=.type "tuple",data:=.seq (ps.map fun (i:Nat)=>rawInt i).toArray } }) (ag _ g) rfl hf ?_);refine ab (bt (ak ⟨_,rfl,"set_iterator",_,⟨_,aE _ rfl,rfl⟩,sn,?_⟩));have:=hn hb ps d p;rw [show (s.heap.push { cls:=.type "tuple",data:=.seq (ps.map fun (i:Nat)=>rawInt i).toArray }).objs.size = s.heap.objs.size+1 from bC ..];exact this
   . rename_i nd
     have h1:es.size<=1:=by
      rcases hp with z | z
      . lia
      . apply fu;intro h2;apply nd;show (!false && (!t.plain && decide (es.size > 1))) = true;rw [z];simp
        lia
     refine ab (sr g rfl hf (ab (bt (ak ⟨_,rfl,"set_iterator",_,⟨_,aE _ rfl,rfl⟩,sn,hd (.inr h1)⟩))))
end
section
variable {prog:aR} {w:bf} {A:ba} {E:af->ai->Prop} {s:ai}
noncomputable def yA (es:Array (Int × af)) (ep:Nat) (t:cR):Obj:={ cls:=.type "set",dict:=none,data:=.set es ep t,slots := #[] }
noncomputable def plO (ps:List Nat):Obj:={ cls:=.type "tuple",data:=.seq (ps.map fun (i:Nat)=>rawInt i).toArray }
theorem uQ (g:s.heap.get? I = some (itO f i a n ep)) (h:Q (.ref I) s):wpAny (model prog w) A (pyIter (.ref I)) Q E s:=by
 refine Nw (T:="set_iterator") ⟨_,g,rfl⟩ we (bM we ⟨_,g,rfl⟩ Ct ?_ (GS _));exact ak ⟨_,rfl,"set_iterator",_,⟨_,g,rfl⟩,lG.lookup,h⟩
theorem zx {Q:Option af->ai->Prop} {Q':PySem.Fin->ai->Prop} (hh:A.handled = none) (h:∀ h',(∀ b o,s.heap.get? b = some o->h'.get? b = some o)->Q none { s with heap:=h' }) :
 wpAny (model prog w) A.in1 (do raiseNew (<- newExc (.type "StopIteration") [])) Q' (fun e s'=>wpAny (model prog w) A (do
  let b <- isInstance e (.type "StopIteration")
  if b = true then pure none else throw e) Q E s') s:=by
 refine ab ?_;simp only [newExc,newTuple];refine ab (bt (ab (m:=firstArgMember _ _) (gf (a:=cn) (by first | rfl | (simp only [firstArgMember];rfl)) (bt ?_ (by size_fits)))) (by size_fits));simp only [raiseNew];apply ab;apply wpAny_handled;rw [(hh:A.in1.handled = none)];dsimp only;apply wpAny_throw;refine ab (lQ (b:=true) (T:="StopIteration") ⟨_,aE _ rfl,rfl⟩ isSubtype_stop (ak (h _ fun b o e=>?_)));exact ag _ (ag _ e)
theorem rm {I:aw} {f x:af} {i:Nat} {a:aw} {n ep:Nat} {h:bK} (g:h.get? I = some (itO f i a n ep)):(h.update I (kr (·.setIfInBounds 0 x))).get? I = some (itO x i a n ep):=fj _ g rfl
theorem xf {I:aw} {f:af} {i:Nat} {a:aw} {n ep:Nat} {h:bK} (g:h.get? I = some (itO f i a n ep)):(h.update I (kr (·.setIfInBounds 1 (rawInt ((i:Int)+1))))).get? I = some (itO f (i+1) a n ep):=by
 have:=fj (kr (·.setIfInBounds 1 (rawInt ((i:Int)+1)))) g rfl;rw [this];simp [kr,itO,rawInt]
section
variable {I a:aw} {es:Array (Int × af)} {ep:Nat} {t:cR} {i:Nat} {Q:Option af->ai->Prop}
theorem uI {slot:Nat} (g:s.heap.get? I = some (itO (.int slot 0) i a es.size ep)) (ga:s.heap.get? a = some (yA es ep t)) (hf:t.fits es.size = true) (hh:A.handled = none) {r:Option (af × Nat)}
 (hs:∀ (A':ba) (Q':Option (af × Nat)->ai->Prop) (E':af->ai->Prop),Q' r s->wpAny (model prog w) A' (setNext a slot i ep) Q' E' s)
 (h:match r with
   | some (x,next)=>∀ h',h'.get? I = some (itO (.int next 0) (i+1) a es.size ep)->(∀ b o,b≠I->s.heap.get? b = some o->h'.get? b = some o)->Q (some x) { s with heap:=h' }
   | none=>∀ h',(∀ b o,b≠I->s.heap.get? b = some o->h'.get? b = some o)->Q none { s with heap:=h' }) :
 wpAny (model prog w) A (pyNext (.ref I)) Q E s:=by
 unfold pyNext;refine ab (qr (cO (name:=fV "__next__") ⟨_,g,rfl⟩ lG (bM lG ⟨_,g,rfl⟩ xp ?_ (AL _))));unfold eQ.«set_iterator.__next__»;simp only [slotArgs,kx,dA,aO,if_false,aB,bne_self_eq_false,pure_bind,bind_assoc];refine ab (wpAny_fieldsOf g rfl ?_);dsimp only;refine ab (pS ga rfl hf ?_);rw [if_neg (by simp)];refine ab (hs _ _ _ ?_)
 cases r with
 | some p =>
   obtain ⟨x,next⟩:=p;refine ab (eW g rfl (by show 0 < 5;decide) (ab (eW (rm g) rfl (by show 1 < 5;decide) (ak ⟨x,rfl,ak (h _ (xf (rm g)) fun b o hb e=>?_)⟩))))
   exact (bJ _ I _).extBut b o hb ((bJ _ I _).extBut b o hb e)
 | none =>
   refine ab (eW g rfl (by show 2 < 5;decide) ?_);refine zx hh fun h' k=>?_;exact h h' fun b o hb e=>k b o ((bJ _ I _).extBut b o hb e)
theorem Fw {T:aw} {ps:List Nat} (g:s.heap.get? I = some (itO (.ref T) i a es.size ep)) (ga:s.heap.get? a = some (yA es ep t)) (gT:s.heap.get? T = some (plO ps)) (hf:t.fits es.size = true) (hh:A.handled = none)
 (h:match ps[i]? with
   | some p=>∃ x,es[p]? = some x/\∀ h',h'.get? I = some (itO (.ref T) (i+1) a es.size ep)->(∀ b o,b≠I->s.heap.get? b = some o->h'.get? b = some o)->Q (some x.2) { s with heap:=h' }
   | none=>∀ h',(∀ b o,b≠I->s.heap.get? b = some o->h'.get? b = some o)->Q none { s with heap:=h' }) :
 wpAny (model prog w) A (pyNext (.ref I)) Q E s:=by
 unfold pyNext;refine ab (qr (cO (name:=fV "__next__") ⟨_,g,rfl⟩ lG (bM lG ⟨_,g,rfl⟩ xp ?_ (AL _))));unfold eQ.«set_iterator.__next__»;simp only [slotArgs,kx,dA,aO,if_false,aB,bne_self_eq_false,pure_bind,bind_assoc];refine ab (wpAny_fieldsOf g rfl ?_);dsimp only;refine ab (pS ga rfl hf ?_);rw [if_neg (by simp)];refine ab (dv gT rfl ?_);dsimp only;have e:((ps.map fun (i:Nat)=>rawInt i).toArray)[((i:Nat):Int).toNat]? = (ps[i]?).map fun (p:Nat)=>rawInt p:=by simp
 rw [e]
 cases hp:ps[i]? with
 | some p =>
   rw [hp] at h;obtain ⟨x,hx,h⟩:=h;simp only [dg,rawInt];unfold setNextDrawn;simp only [bind_assoc,pure_bind];refine ab (cm ga rfl hf ?_);rw [if_neg (by simp)];simp only [jO,hx,pure_bind];refine ab (eW g rfl (by show 1 < 5;decide) (ak ⟨x.2,rfl,ak (h _ (xf g) fun b o hb e=>?_)⟩))
   exact (bJ _ I _).extBut b o hb e
 | none =>
   rw [hp] at h;simp only [Option.map_none];refine ab (eW g rfl (by show 0 < 5;decide) (ab (eW (rm g) rfl (by show 2 < 5;decide) ?_)));refine zx hh fun h' k=>?_;exact h h' fun b o hb e=>k b o ((bJ _ I _).extBut b o hb ((bJ _ I _).extBut b o hb e))
end
end
section
variable {prog:aR} {w:bf} {A:ba} {E:af->ai->Prop} {s:ai} {I a T:aw} {es:Array (Int × af)} {ep:Nat} {t:cR}
theorem Di (hh:A.handled = none) (h1:a≠I) (h2:T≠I) (hf:t.fits es.size = true) (hp:∀ p∈ps,p < es.size) :
 Walks prog w A I [I,a,T] [I] ps.length (fun i v=>∃ p x,ps[i]? = some p/\es[p]? = some x/\v = x.2) (fun i h=>h.get? I = some (itO (.ref T) i a es.size ep)/\h.get? a = some (yA es ep t)/\h.get? T = some (plO ps)) where
 sub:=fun b hb=>by simp at hb;simp [hb]
 frame:=fun _ _ _ st hk=>⟨hk I (by simp) _ st.1,hk a (by simp) _ st.2.1,hk T (by simp) _ st.2.2⟩
 item:=fun i s Q E hi st hQ=>by
  refine Fw (ps:=ps) st.1 st.2.1 st.2.2 hf hh ?_;have e:ps[i]? = some ps[i]:=ax hi;obtain ⟨x,hx⟩:∃ x,es[ps[i]]? = some x:=⟨_,bT (hp _ (ky hi))⟩;rw [e];exact ⟨x,hx,fun h' g' k=>hQ _ h' s.toks ⟨_,_,e,hx,rfl⟩ ⟨g',k a _ h1 st.2.1,k T _ h2 st.2.2⟩ fun b o hb z=>k b o (fun q=>hb (by simp [q])) z⟩
 done:=fun s Q E st hQ=>by
  refine Fw (ps:=ps) st.1 st.2.1 st.2.2 hf hh ?_;have e:ps[ps.length]? = none:=by simp
  rw [e];exact fun h' k=>hQ h' s.toks fun b o hb z=>k b o (fun q=>hb (by simp [q])) z
 self:=fun _ _ _ _ st hQ=>uQ st.1 hQ
noncomputable def txt (w:bf) (a:aw) (ep:Nat) (es:Array (Int × af)):Array (Int × af):=pickOrder (w.params.setOrder a ep) es
theorem Dh (hh:A.handled = none) (h1:a≠I) (hf:t.fits es.size = true) (hb:w.params.followText "set-order" = true) :
 Walks prog w A I [I,a] [I] es.size (fun i v=>∃ x,(txt w a ep es)[i]? = some x/\v = x.2) (fun i h=>(∃ slot:Nat,h.get? I = some (itO (.int slot 0) i a es.size ep))/\h.get? a = some (yA es ep t)):=by
 have hsz:(txt w a ep es).size = es.size:=by
  have:=(sQ (w.params.setOrder a ep) es).length_eq;simpa [txt] using this
 have sn:∀ (A':ba) (s:ai) (slot i:Nat) (Q':Option (af × Nat)->ai->Prop) (E':af->ai->Prop),s.heap.get? a = some (yA es ep t)->Q' (((txt w a ep es)[i]?).map fun e=>(e.2,slot)) s->wpAny (model prog w) A' (setNext a slot i ep) Q' E' s:=fun A' s slot i Q' E' ga q=>by
  unfold setNext setsByText;simp only [bind_assoc,pure_bind];refine ab (cm ga rfl hf (ab (dJ ?_)));rw [show ((model prog w).w.params.followText "set-order") = true from hb];simp only [if_true,bne_self_eq_false,aO,if_false];unfold setWalk setsByText;simp only [bind_assoc,pure_bind];refine ab (cm ga rfl hf (ab (dJ ?_)));rw [show ((model prog w).w.params.followText "set-order") = true from hb];simp only [if_true,bind_assoc,pure_bind];exact ab (dJ (ak q))
 exact {
  sub:=fun b hb=>by simp at hb;simp [hb]
  frame:=fun _ _ _ st hk=>⟨st.1.imp fun slot e=>hk I (by simp) _ e,hk a (by simp) _ st.2⟩
  item:=fun i s Q E hi st hQ=>by
   obtain ⟨slot,g⟩:=st.1;have e:(txt w a ep es)[i]? = some ((txt w a ep es)[i]'(by omega)):=bT _;refine uI (slot:=slot) (r:=some (((txt w a ep es)[i]'(by omega)).2,slot)) g st.2 hf hh (fun A' Q' E' q=>sn A' s slot i Q' E' st.2 (by rw [e];exact q)) fun h' g' k=>?_;exact hQ _ h' s.toks ⟨_,e,rfl⟩ ⟨⟨slot,g'⟩,k a _ h1 st.2⟩ fun b o hb z=>k b o (fun q=>hb (by simp [q])) z
  done:=fun s Q E st hQ=>by
   obtain ⟨slot,g⟩:=st.1;have e:(txt w a ep es)[es.size]? = none:=by rw [<- hsz];simp
   refine uI (slot:=slot) (r:=none) g st.2 hf hh (fun A' Q' E' q=>sn A' s slot es.size Q' E' st.2 (by rw [e];exact q)) fun h' k=>?_;exact hQ h' s.toks fun b o hb z=>k b o (fun q=>hb (by simp [q])) z
  self:=fun _ _ _ _ st hQ=>uQ st.1.choose_spec hQ }
theorem xI (p:Array Nat) (hp:p.size<=1) (slot:Nat):cV p slot = if p.any (· < slot) = true then 1 else 0:=by
 match p,hp with
 | ⟨[]⟩,_=>simp [cV,kI]
 | ⟨[j]⟩,_ =>
   by_cases h:j < slot
   . simp [cV,kI,h]
   . simp [cV,kI,h]
 | ⟨_::_::_⟩,h=>simp at h
theorem Dj (hh:A.handled = none) (h1:a≠I) (hf:t.fits es.size = true) (hb:w.params.followText "set-order" = false) (hl:t.led = true) (hz:es.size<=1) :
 Walks prog w A I [I,a] [I] es.size (fun i v=>∃ x,es[i]? = some x/\v = x.2) (fun i h=>(∃ slot:Nat,h.get? I = some (itO (.int slot 0) i a es.size ep)/\(i = 0->slot = 0)/\(1<=i->t.place.any (· < slot) = true))/\h.get? a = some (yA es ep t)):=by
 have hp:t.place.size = es.size:=by
  have:=hf;simp only [SetTable.fits,aa,beq_iff_eq] at this;exact this.1
 have sn:∀ (A':ba) (s:ai) (slot i:Nat) (Q':Option (af × Nat)->ai->Prop) (E':af->ai->Prop),s.heap.get? a = some (yA es ep t) ->
  Q' (match es[cV t.place slot]?,t.place[cV t.place slot]? with | some (_,x),some j=>some (x,j+1) | _,_=>none) s->wpAny (model prog w) A' (setNext a slot i ep) Q' E' s:=fun A' s slot i Q' E' ga q=>by
  unfold setNext setsByText;simp only [bind_assoc,pure_bind];refine ab (cm ga rfl hf (ab (dJ ?_)));rw [show ((model prog w).w.params.followText "set-order") = false from hb];simp only [aO,if_false];refine gf (a:=(match es[cV t.place slot]?,t.place[cV t.place slot]? with | some (_,x),some j=>some (x,j+1) | _,_=>none)) ?_ q;rw [if_neg (by show ¬ ((!t.plain && decide (es.size > 1)) = true);simp;omega)];show ((if (!t.led && !es.isEmpty) = true then unsupported _ else pure ()) >>= fun _=>pure _:Sem _) = _;rw [hl];rfl
 exact {
  sub:=fun b hb=>by simp at hb;simp [hb]
  frame:=fun _ _ _ st hk=>⟨st.1.imp fun slot e=>⟨hk I (by simp) _ e.1,e.2⟩,hk a (by simp) _ st.2⟩
  item:=fun i s Q E hi st hQ=>by
   obtain ⟨slot,g,z0,z1⟩:=st.1;have i0:i = 0:=by omega
   subst i0;have s0:=z0 rfl;subst s0;have b0:cV t.place 0 = 0:=by rw [xI _ (by omega)];simp
   have e:es[0]? = some (es[0]'hi):=bT _;have ej:t.place[0]? = some (t.place[0]'(by omega)):=bT _;refine uI (slot:=0) (r:=some ((es[0]'hi).2,t.place[0]'(by omega)+1)) g st.2 hf hh (fun A' Q' E' q=>sn A' s 0 0 Q' E' st.2 (by rw [b0,e,ej];exact q)) fun h' g' k=>?_;refine hQ _ h' s.toks ⟨_,e,rfl⟩ ⟨⟨_,g',fun z=>by omega,fun _=>?_⟩,k a _ h1 st.2⟩ fun b o hb z=>k b o (fun q=>hb (by simp [q])) z;rw [Array.any_eq_true];exact ⟨0,by omega,by simp⟩
  done:=fun s Q E st hQ=>by
   obtain ⟨slot,g,z0,z1⟩:=st.1
   have e:es[cV t.place slot]? = none:=by
    rw [xI _ (by omega)];rcases dS 0 es.size with q | q
    . rw [if_pos (z1 (by omega))];exact xY (by omega)
    . exact xY (by split<;>omega)
   refine uI (slot:=slot) (r:=none) g st.2 hf hh (fun A' Q' E' q=>sn A' s slot es.size Q' E' st.2 (by rw [e];exact q)) fun h' k=>?_;exact hQ h' s.toks fun b o hb z=>k b o (fun q=>hb (by simp [q])) z
  self:=fun _ _ _ _ st hQ=>uQ st.1.choose_spec.1 hQ }
noncomputable def Nr (w:bf) (a:aw) (xs:List af) (h:bK):Prop:=∃ (es:Array (Int × af)) (ep:Nat) (t:cR),
 h.get? a = some { cls:=.type "set",dict:=none,data:=.set es ep t,slots := #[] }/\t.fits es.size = true/\t.led = (!w.params.followText "set-order")/\(es.size = 0\/t.plain = false)/\(es.toList.map (·.2)).Perm xs
theorem EA (hh:A.handled = none) (hS:Nr w a xs s.heap) (hz:xs.length < 1000)
 (h:∀ (I:aw) (fp:List aw) (n:Nat) (P:Nat->af->Prop) (St:Nat->bK->Prop) (us:List af) d h',Walks prog w A I fp [I] n P St->us.length = n->St 0 h'->(∀ b∈fp,b < h'.objs.size)->(∀ b o,s.heap.get? b = some o->b≠I/\h'.get? b = some o)->us.Perm xs->(∀ i v,P i v->us[i]? = some v)->(∀ b∈fp,b = a\/s.heap.objs.size<=b) ->
   Q (.ref I) { s with drawn:=d,heap:=h' }):wpAny (model prog w) A (pyIter (.ref a)) Q E s:=by
 obtain ⟨es,ep,t,g,hf,hl,hp,hu⟩:=hS;have hsz:es.size = xs.length:=by rw [<- hu.length_eq];simp
 have ha:a < s.heap.objs.size:=az g
 have pe:∀ (vs:List (Int × af)),vs.Perm es.toList->∃ us':List af,us'.Perm xs/\us'.length = es.size/\∀ (i:Nat) (x:Int × af),vs[i]? = some x->us'[i]? = some x.2:=fun vs pv =>
  ⟨vs.map (·.2),(pv.map _).trans hu,by rw [aj,pv.length_eq,aZ],fun i x hx=>by rw [bj,hx];rfl⟩
 refine FX g hf (fun hm=>?_) (fun hb ps d pp=>?_) (by omega) hp
 . cases hb:w.params.followText "set-order" with
   | true =>
     obtain ⟨us',p',l',q'⟩:=pe (txt w a ep es).toList (sQ _ _);refine h s.heap.objs.size [s.heap.objs.size,a] es.size _ _ us' s.drawn _ (Dh (ep:=ep) (I:=s.heap.objs.size) hh (aJ ha) hf hb) l' ⟨⟨0,aE _ rfl⟩,ag _ g⟩ (fun b hb=>?_) (fun b o e=>⟨aJ (az e),ag _ e⟩) p' (fun i v ⟨x,hx,hv⟩=>?_) (fun b hb=>by simp at hb;rcases hb with rfl | rfl;exact .inr (aA _);exact .inl rfl)
     . rw [bC];simp at hb;rcases hb with rfl | rfl
       . exact eL _
       . exact bw ha
     . rw [hv]
       exact q' i x (by simpa using hx)
   | false =>
     have h1:es.size<=1:=by
      rcases hm with z | z
      . rw [hb] at z;cases z
      . exact z
     obtain ⟨us',p',l',q'⟩:=pe es.toList (.refl _);refine h s.heap.objs.size [s.heap.objs.size,a] es.size _ _ us' s.drawn _ (Dj (ep:=ep) (I:=s.heap.objs.size) hh (aJ ha) hf hb (by rw [hl,hb];rfl) h1) l' ⟨⟨0,aE _ rfl,fun _=>rfl,fun z=>by omega⟩,ag _ g⟩ (fun b hb=>?_) (fun b o e=>⟨aJ (az e),ag _ e⟩) p' (fun i v ⟨x,hx,hv⟩=>?_) (fun b hb=>by simp at hb;rcases hb with rfl | rfl;exact .inr (aA _);exact .inl rfl)
     . rw [bC];simp at hb;rcases hb with rfl | rfl
       . exact eL _
       . exact bw ha
     . rw [hv];exact q' i x (by simpa using hx)
 . have hps:∀ p∈ps,p < es.size:=fun p hp=>by simpa using pp.mem_iff.mp hp
   have hpl:ps.length = es.size:=by rw [pp.length_eq];simp
   have pv:(ps.filterMap fun p=>es[p]?).Perm es.toList:=by
    have:=pp.filterMap fun p=>es[p]?
    rwa [CJ] at this
   have ev:∀ (ps:List Nat),(∀ p∈ps,p < es.size)->∀ (i p:Nat),ps[i]? = some p->(ps.filterMap fun p=>es[p]?)[i]? = es[p]? := fun ps=>by
    induction ps with
    | nil=>intro _ i p e;simp at e
    | cons q qs ih =>
      intro hq i p e;have hq0:es[q]? = some (es[q]'(hq q ao)):=bT _;rw [jM hq0]
      cases i with
      | zero=>simp at e;subst e;simp [hq0]
      | succ i=>simpa using ih (fun p hp=>hq p (aq _ hp)) i p (by simpa using e)
   obtain ⟨us',p',l',q'⟩:=pe _ pv;have W:=Di (prog:=prog) (w:=w) (A:=A) (ep:=ep) (a:=a) (I:=s.heap.objs.size+1) (T:=s.heap.objs.size) hh (aJ (bw ha)) (aJ (eL _)) hf hps;have sz:((s.heap.push (plO ps)).push (itO (.ref s.heap.objs.size) 0 a es.size ep)).objs.size = s.heap.objs.size+1+1:=by rw [bC,bC]
   refine h (s.heap.objs.size+1) [s.heap.objs.size+1,a,s.heap.objs.size] ps.length _ _ us' d _ W (l'.trans hpl.symm) ⟨?_,ag _ (ag _ g),ag _ (aE _ rfl)⟩ (fun b hb=>?_) (fun b o e=>⟨aJ (bw (az e)),ag _ (ag _ e)⟩) p' (fun i v ⟨p,x,e1,e2,hv⟩=>?_) (fun b hb=>by simp at hb;rcases hb with rfl | rfl | rfl;exact .inr (jL _);exact .inl rfl;exact .inr (aA _))
   . have:((s.heap.push (plO ps)).push (itO (.ref s.heap.objs.size) 0 a es.size ep)).get? (s.heap.push (plO ps)).objs.size = _:=aE _ rfl
     rwa [bC] at this
   . show b < ((s.heap.push (plO ps)).push (itO (.ref s.heap.objs.size) 0 a es.size ep)).objs.size;rw [sz];simp at hb;rcases hb with rfl | rfl | rfl
     . exact eL _
     . exact bw (bw ha)
     . exact bw (eL _)
   . rw [hv];exact q' i x (by rw [ev ps hps i p e1];exact e2)
end
section
variable {prog:aR} {w:bf} {A:ba} {E:af->ai->Prop} {s:ai} {a:aw}
theorem FT:typeLookup (.type "set") "__len__" = pure (some (.builtin "set.__len__")):=PySem.F.slot_set_len.lookup
theorem Ab {α:Type}:∀ {us vs:List α},us.length = vs.length->(∀ (j:Nat) (v:α),vs[j]? = some v->us[j]? = some v)->us = vs
 | [],[],_,_=>rfl
 | [],_::_,h,_=>by simp at h
 | _::_,[],h,_=>by simp at h
 | u::us,v::vs,h,q=>by
   have e:=q 0 v rfl;simp at e;subst e;rw [Ab (by simpa using h) fun j x hj=>q (j+1) x (by simpa using hj)]
theorem Ke {id:String} {args:Args} {b:eQ} {R:rT->ai->Prop} (hb:entryFor table id = some b) (hp:plainId id = true)
 (h:wpAny (model prog w) A.in1 (b args) (fun fin s'=>match fin with | .done f=>R (.ok f) s' | .again c'=>c'.quiet = true/\codeAny (model prog w) A c' R s') (fun e s'=>R (.error e) s') s):codeAny (model prog w) A (.builtin id args) R s :=
 jt hb (by rw [ic hp args];exact h)
theorem pC {xs:List af} {Q:List af->ai->Prop} (hh:A.handled = none) (hS:Nr w a xs s.heap) (hz:xs.length < 1000)
 (h:∀ (vs:List af) d tk h',vs.Perm xs->(∀ b o,s.heap.get? b = some o->h'.get? b = some o)->Q vs { s with drawn:=d,toks:=tk,heap:=h' }) :
 wpAny (model prog w) A (collect (.ref a)) Q E s:=by
 have ha:a < s.heap.objs.size:=by obtain ⟨es,ep,t,g,_⟩:=hS;exact az g
 have hsa:s.heap.objs.size≠a:=fun z=>cy _ (by rw [z] at ha;exact ha);unfold collect;refine ab (wpAny_runValue (Ke F.entry_proto_collect F.plain_proto_collect ?_));show wpAny _ A.in1 (newList [] >>= fun l=>again (.builtin "list.__iadd__" ⟨[l,.ref a],[]⟩)) _ _ s;refine ab (bt (ak ⟨ly F.plain_list_iadd _,Ke F.entry_list_iadd F.plain_list_iadd ?_⟩));generalize ho:({ cls:=.type "list",data:=.seq ([]:List af).toArray }:Obj) = lo;have g0:(s.heap.push lo).get? s.heap.objs.size = some lo:=aE _ (by rw [<- ho];rfl)
 have hS1:Nr w a xs (s.heap.push lo):=by
  obtain ⟨es,ep,t,g,r⟩:=hS;exact ⟨es,ep,t,ag _ g,r⟩
 have hT:({ s with heap:=s.heap.push lo }:ai).TypeIs (.ref a) "set":=by
  obtain ⟨es,ep,t,g,r⟩:=hS1;exact ⟨_,g,rfl⟩
 show wpAny _ A.in1 (nV (.ref s.heap.objs.size) (.ref a) (.ref s.heap.objs.size)) _ _ _;unfold nV;refine ab (sk hT ?_);have nr:pH (.ref s.heap.objs.size) (.ref a) = false:=by simp [pH,hsa]
 rw [if_neg (by rw [nr];decide)];refine ab (EA (A:=A.in1) hh hS1 hz fun I fp n P St us d h2 W hn st hf hk hu hP hfp=>?_);refine ab (bO ?_);unfold Builtin.List.listLengthHint
 have hT2:({ s with heap:=h2,drawn:=d }:ai).TypeIs (.ref a) "set":=by
  obtain ⟨es,ep,t,g,r⟩:=hS1;exact ⟨_,(hk _ _ g).2,rfl⟩
 refine ab (jq hT2 FT ?_);dsimp only;rw [show splitId "set.__len__" = some ("set","__len__") from by decide +kernel];dsimp only;refine ab (lQ (b:=true) hT2 (by rw [zf];kernel_rfl) ?_);rw [if_neg (by decide),if_pos (by kernel_rfl)];refine ab (sk hT2 (ak ?_));rw [if_pos (by decide +kernel)];have gS:h2.get? s.heap.objs.size = some lo:=(hk _ _ g0).2;subst ho
 have hSf:s.heap.objs.size∉fp:=fun hm=>by
  rcases hfp _ hm with z | z
  . exact hsa z
  . rw [show ({ s with heap:=s.heap.push _ }:ai).heap.objs.size = s.heap.objs.size+1 from bC ..] at z;exact cy _ z
 have g3:=xO gS fun xs=>xs.push cn;have g4:=xO g3 fun xs=>xs.pop;refine ab (gQ (ab ?_));unfold Builtin.List.listTouch;refine ab (lz gS rfl (lz (s:={ s with drawn:=d,heap:=h2.update s.heap.objs.size (cq fun xs=>xs.push cn) }) g3 rfl ?_ (by rw [bR];simp) (by rw [bR];simp)) (by rw [bR];simp) (by rw [bR];simp));have up:∀ {h:bK} {f:Obj->Obj} {b:aw} {o:Obj},b≠s.heap.objs.size->h.get? b = some o->(h.update s.heap.objs.size f).get? b = some o:=fun hb e=>(eP _ _ (Ne.symm hb)).trans e;have st4:=W.frame 0 _ ((h2.update s.heap.objs.size (cq fun xs=>xs.push cn)).update s.heap.objs.size (cq fun xs=>xs.pop)) st fun b hb o e=>up (fun z=>hSf (z▸hb)) (up (fun z=>hSf (z▸hb)) e);refine ak ⟨ly F.plain_extend_loop _,codeAny_extend_loopS W.toS (by rw [<- hn,hu.length_eq,bR];lia) _ hSf _ n 0 _ #[] _ rfl (cu _) st4 g4 (ItemsOf.nil P) fun s' acc c hm hS' hac=>?_⟩;show wpAny _ A (load s.heap.objs.size >>= _) _ _ s';refine ab (wpAny_load hS' (ak ?_));obtain ⟨hp',gn',dr',tk',os'⟩:=s';obtain ⟨m1,m2,m3,m4,m5⟩:=hm;obtain rfl:gn' = s.gens:=m2;obtain rfl:dr' = d:=m3;obtain rfl:os' = s.os:=m4;have ea:us = acc.toList:=Ab (hn.trans (hac.1.symm.trans aZ.symm)) fun j v hj=>hP j v (hac.2 j v (by simpa using hj));refine h acc.toList _ tk' hp' (by rw [<- ea];exact hu) fun b o e=>?_;have hb:b≠s.heap.objs.size:=aJ (az e);have hb2:=hk b o (ag _ e);exact m1 b o (by simp [hb,hb2.1]) (up hb (up hb hb2.2))
theorem ox {α β:Type} {R:α->β->Prop} {ys' ys:List β} (p:Hv ys' ys):∀ xs,Paired R xs ys->∃ xs',xs'.Perm xs/\Paired R xs' ys':=by
 induction p with
 | nil=>intro us r;exact ⟨us,.refl _,r⟩
 | cons x _ ih =>
   intro us r
   cases r with
   | cons r t =>
     obtain ⟨us',p',r'⟩:=ih _ t
     exact ⟨_,p'.cons _,.cons r r'⟩
 | swap x y l =>
   intro us r
   cases r with
   | cons r1 t =>
     cases t with
     | cons r2 t=>exact ⟨_,.swap _ _ _,.cons r2 (.cons r1 t)⟩
 | trans _ _ i1 i2 =>
   intro us r;obtain ⟨u1,p1,r1⟩:=i2 us r;obtain ⟨u2,p2,r2⟩:=i1 u1 r1;exact ⟨u2,p2.trans p1,r2⟩
theorem xB {ts:List Str} {Q:List af->ai->Prop} (hh:A.handled = none) (hS:oN prog w a ts s.heap) (hz:ts.length < 1000)
 (h:∀ (us:List Str) (vs:List af) d tk h',us.Perm ts->Paired (fun (u:Str) (v:af)=>∃ k,v = .str u k) us vs->(∀ b o,s.heap.get? b = some o->h'.get? b = some o)->Q vs { s with drawn:=d,toks:=tk,heap:=h' }) :
 wpAny (model prog w) A (collect (.ref a)) Q E s:=by
 obtain ⟨es,ep,t,us,g,hf,hl,hp,hu,he⟩:=hS
 have pr:∀ {us:List Str} {es:List (Int × af)},Paired (fun (u:Str) (e:Int × af)=>∃ tk,e.2 = .str u tk) us es->Paired (fun (u:Str) (v:af)=>∃ k,v = .str u k) us (es.map (·.2)):=fun r=>by
  induction r with
  | nil=>exact .nil
  | cons r _ ih=>exact .cons r ih
 refine pC hh ⟨es,ep,t,g,hf,hl,hp,.refl _⟩ (by rw [aj,kY he,hu.length_eq];exact hz) fun vs d tk h' pv k=>?_;obtain ⟨us',p',r'⟩:=ox pv us (pr he.2);exact h us' vs d tk h' (p'.trans hu) r' k
end
end PP
end
section
namespace PP
open PySem L2 PyProof.Rows PySem.SeqAt
noncomputable def nN (w:bf) (a:aw) (xs:List (Int × af)) (h:bK):Prop:=∃ (es:Array (Int × af)) (ep:Nat) (t:cR),
 h.get? a = some { cls:=.type "set",dict:=none,data:=.set es ep t,slots := #[] }/\TbI t (es.toList.map (·.1))/\t.led = (!w.params.followText "set-order")/\(es.size = 0\/t.plain = false)/\es.toList.Perm xs/\es.size * 5 < t.mask * 3
theorem Cn (hm:mk m) (h1:n<=64) (h2:n<=m) (h3:n * 5 ≥ m * 3):mk (aQ (aM n) - 1)/\n<=aQ (aM n) - 1/\aQ (aM n)<=128/\n * 5 < (aQ (aM n) - 1) * 3:=by
 have key:∀ m n:Nat,(m = 7\/m = 31\/m = 127)->n < 65->n<=m->n * 5 ≥ m * 3->(aQ (aM n) - 1 = 7\/aQ (aM n) - 1 = 31\/aQ (aM n) - 1 = 127)/\n<=aQ (aM n) - 1/\aQ (aM n)<=128/\n * 5 < (aQ (aM n) - 1) * 3:=by
  have k7:∀ n < 65,n<=7->n * 5 ≥ 7 * 3->(aQ (aM n) - 1 = 7\/aQ (aM n) - 1 = 31\/aQ (aM n) - 1 = 127)/\n<=aQ (aM n) - 1/\aQ (aM n)<=128/\n * 5 < (aQ (aM n) - 1) * 3:=by decide +kernel
  have k31:∀ n < 65,n<=31->n * 5 ≥ 31 * 3->(aQ (aM n) - 1 = 7\/aQ (aM n) - 1 = 31\/aQ (aM n) - 1 = 127)/\n<=aQ (aM n) - 1/\aQ (aM n)<=128/\n * 5 < (aQ (aM n) - 1) * 3:=by decide +kernel
  rintro m n (rfl | rfl | rfl) a b c
  . exact k7 n a b c
  . exact k31 n a b c
  . lia
 exact key m n hm (by lia) h2 h3
variable [Tbs]
section
variable {prog:aR} {w:bf} {A:ba} {E:af->ai->Prop} {s:ai}
theorem wz (g:s.heap.get? a = some { cls:=.type "set",dict:=none,data:=.set es ep t,slots := #[] })
 (T:TbI t2 (es1.toList.map (·.1))) (hl:t2.led = (!w.params.followText "set-order")) (hp:t2.plain = false) (hq:es1.toList.Perm xs) (hr:xs.length<=64) (hn:es1.size = es.size+1)
 (fin:∀ h',dy a s.heap h'->nN w a xs h'->Q true { s with heap:=h' }) :
 wpAny (model prog w) A (do
  storeSet a es1 t2
  if (!false && t2.tooFull) = true then do
   setRelay a (aM (es.size+1))
   pure true
  else pure true) Q E s:=by
 have hsz:es1.size = xs.length:=by rw [<- aZ,hq.length_eq]
 have k1:=qa (es':=es1) (t':=t2) g;have sb1:=bJ s.heap a (lA es1 t2);have z1:es1.size < scanBound:=bV (show es1.size<=64 by lia) (by decide);refine ab (kG g rfl ?_ (kH z1));split
 . rename_i hf
   have hf':t2.place.size * 5 ≥ t2.mask * 3:=by
    have:t2.tooFull = true:=hf;unfold AS rY at this;rw [T.dm] at this;simpa using this
   have hpl:t2.place.size = es1.size:=by have:=T.len;simpa using this
   have hfew:es1.size<=t2.mask:=by have:=T.few;simpa using this
   obtain ⟨m1,m2,m3,m4⟩:=Cn T.mok (n:=es1.size) (by lia) hfew (by lia);rw [<- hn];unfold setRelay;refine ab (ab (cm (s:={ s with heap:=s.heap.update a (lA es1 t2) }) k1 rfl (fits_of T (by simp)) ?_));dsimp only;rw [if_neg (by rw [bR];lia)];obtain ⟨t3,order,e,po,T3,l3,p3,mm3⟩:=Jp m1 t2.finger (t2.movedTo (aQ (aM es1.size) - 1)) t2.led t2.plain (es1.map (·.1)) (by simpa using m2);have hz:(es1.map (·.1)).size = es1.size:=by simp
   rw [hz] at po
   have pe:(order.filterMap (es1[·]?)).toList.Perm es1.toList:=by
    have:=po.filterMap (es1[·]?);rw [CJ] at this;rw [xX];exact this
   have sz3:(order.filterMap (es1[·]?)).size = es1.size:=by
    rw [<- aZ,pe.length_eq,aZ]
   have T3':TbI t3 ((order.filterMap (es1[·]?)).toList.map (·.1)):=by
    have:(order.filterMap (es1[·]?)).toList.map (·.1) = order.toList.filterMap ((es1.map (·.1))[·]?):=by
     rw [xX,List.map_filterMap];congr 1
     funext k
     simp
    rw [this];exact T3
   refine ab (gf (a:=(order.filterMap (es1[·]?),t3)) ?_ ?_)
   . rw [show t2.relaid (es1.map (·.1)) (aM es1.size) = some (t3,order) from e];show (if ((order.filterMap (es1[·]?)).size != es1.size) = true then _ else _) = _;rw [if_neg (by rw [sz3];simp)]
   . dsimp only;refine kG (s:={ s with heap:=s.heap.update a (lA es1 t2) }) k1 rfl ?_ (kH (by rw [sz3];exact z1));refine ak (fin _ (sb1.trans (bJ _ a _)) ⟨_,_,t3,qa k1,T3',l3.trans hl,.inr (p3.trans hp),pe.trans hq,by rw [sz3,mm3];exact m4⟩)
 . rename_i hf;refine ak (fin _ sb1 ⟨es1,_,t2,k1,T,hl,.inr hp,hq,?_⟩);have hpl:t2.place.size = es1.size:=by have:=T.len;simpa using this
   have:¬ (t2.tooFull = true):=hf;unfold AS rY at this;rw [T.dm] at this;simp at this
   lia
theorem EB (hu:A.units+20 < cLine) (hS:nN w a xs s.heap) (he:Nt w s.heap ds xs) (hx:hok d = true) (rx:RdV s.heap d x) (hr:xs.length+1<=64)
 (old:d∈ds->Q false { s with toks:=s.toks+nD d }) (new:d∉ds->∀ h',dy a s.heap h'->nN w a (xs++[(hD w d,x)]) h'->Q true { s with heap:=h',toks:=s.toks+nD d }):wpAny (model prog w) A (setAdd a x) Q E s:=by
 obtain ⟨es,ep,t,g,T,hl,hp,hq,hmk⟩:=hS;obtain ⟨hb1,hd1,_⟩:=eZ hx;obtain ⟨b,rfl⟩:=qh hx rx;obtain ⟨us,pu,hu'⟩:=ox hq ds he;have hsz:es.size = xs.length:=by rw [<- aZ,hq.length_eq]
 have hf:t.fits es.size = true:=fits_of T (by simp);unfold setAdd;refine bO (ab (Gp d A E s _ _ hb1 rx (by lia) ?_));unfold setAddHashed;refine bO ?_;show wpAny _ _ (setAddHashedIn a (.ref b) (hD w d) (99999+1)) _ _ _;unfold setAddHashedIn;refine ab (cm (s:={ s with toks:=s.toks+nD d }) g rfl hf ?_);dsimp only;rw [if_neg (by unfold byScan;simp [Value.scannable])];refine ab (ED (s:={ s with toks:=s.toks+nD d }) hu g T hu' hx rx (fun hm=>ak (old (pu.mem_iff.mp hm))) fun hm N n1 n2=>?_);dsimp only;refine ab (cm (s:={ s with toks:=s.toks+nD d }) g rfl hf ?_)
 have few:es.size+1<=t.mask:=by
  rcases T.mok with z | z | z<;>lia
 obtain ⟨T1,p1,l1,pl1,m1⟩:=T.put n1 n2 (by simpa using few);dsimp only;have le:(ja es (t.put (pbs t.mask (hD w d) N)).2 (hD w d,cT b)).toList = nk es.toList (t.put (pbs t.mask (hD w d) N)).2 (hD w d,cT b):=SetTable.toList_insertAt _ _ _
 have lh:(ja es (t.put (pbs t.mask (hD w d) N)).2 (hD w d,cT b)).toList.map (·.1) = nk (es.toList.map (·.1)) (t.put (pbs t.mask (hD w d) N)).2 (hD w d):=by
  rw [le];unfold nk;rw [bE,aP,List.map_take,List.map_drop]
 rw [<- lh] at T1
 have pe:(ja es (t.put (pbs t.mask (hD w d) N)).2 (hD w d,cT b)).toList.Perm (xs++[(hD w d,cT b)]):=by
  refine (SetTable.insertAt_perm _ _ _).trans ?_;rw [oW];exact hq.append (.refl _)
 have sn:(ja es (t.put (pbs t.mask (hD w d) N)).2 (hD w d,cT b)).size = es.size+1:=by
  rw [<- aZ,le,nh,aZ]
 have fin:∀ h',dy a s.heap h'->nN w a (xs++[(hD w d,cT b)]) h'->Q true { s with heap:=h',toks:=s.toks+nD d }:=new fun z=>hm (pu.mem_iff.mpr z);have hr':(xs++[(hD w d,cT b)]).length<=64:=by rw [ar,bP];exact hr
 by_cases hpl:(t.put (pbs t.mask (hD w d) N)).1.plain = true
 . rw [if_pos hpl];refine ab (CG (s:={ s with toks:=s.toks+nD d }) hx rx ?_);exact wz (s:={ s with toks:=s.toks+nD d }) (t2:={ (t.put (pbs t.mask (hD w d) N)).1 with plain:=false }) g ⟨T1.mok,T1.dm,T1.srt,T1.le,T1.len,T1.few,T1.rch⟩ (l1.trans hl) rfl pe hr' sn fin
 . rw [if_neg hpl];refine ab (ak ?_);exact wz (s:={ s with toks:=s.toks+nD d }) (t2:=(t.put (pbs t.mask (hD w d) N)).1) g T1 (l1.trans hl) (by simpa using hpl) pe hr' sn fin
end
end PP
end
section
namespace PP
open PySem L2 PyProof.Rows PySem.W
noncomputable def ltS (a b:Str):Bool:=decide (a.cps.toList < b.cps.toList)
theorem FH (a b:Str):kS (.str a) (.str b) = some (ltS a b):=by simp [kS,ltD,dep,ltS]
theorem yO (a b:Str) (h:ltS a b = true):ltS b a = false:=by
 unfold ltS at h ⊢;rw [decide_eq_true_eq] at h;rw [decide_eq_false_iff_not];exact List.lt_asymm h
theorem FG (a b c:Str) (h1:ltS b a = false) (h2:ltS c b = false):ltS c a = false:=by
 unfold ltS at h1 h2 ⊢;rw [decide_eq_false_iff_not] at h1 h2 ⊢;exact List.le_trans h1 h2
theorem FI (a b:Str) (h1:ltS a b = false) (h2:ltS b a = false):a = b:=by
 unfold ltS at h1 h2;rw [decide_eq_false_iff_not] at h1 h2;have:=List.le_antisymm h2 h1;obtain ⟨⟨x⟩⟩:=a;obtain ⟨⟨y⟩⟩:=b;simp at this;rw [this]
theorem zu {α:Type} [Inhabited α] {lt:α->α->Bool} {ys:List α} (h:∀ i j,i<=j->j < ys.length->lt (ys.getD j default) (ys.getD i default) = false):ys.Pairwise fun a b=>lt b a = false:=by
 rw [jw];intro i j hi hj hij;have:=h i j (jb hij) hj;simpa [mC,ax hi,ax hj] using this
theorem gc (ts:List Str):∃ ys:List Str,dh (ts.map .str) = ys.map .str/\ys.Perm ts/\ys.Pairwise fun a b=>ltS b a = false:=by
 obtain ⟨ys,e,p,u⟩:=vW D.str ltS FH yO FG ts;exact ⟨ys,e,p,zu u⟩
theorem uk {us ts:List Str} (p:us.Perm ts):dh (us.map .str) = dh (ts.map .str):=by
 obtain ⟨a,e1,p1,q1⟩:=gc us;obtain ⟨b,e2,p2,q2⟩:=gc ts;have:a = b:=rW (fun x y _ _ h1 h2=>FI x y h2 h1) q1 q2 (p1.trans (p.trans p2.symm));rw [e1,e2,this]
noncomputable def Px (X:Cx) (p:aw) (ts:List Str):HO:=.ext (oN X.prog X.w p ts)
variable [Tbs]
theorem jS:∀ {us:List Str} {vs:List af},Paired (fun (u:Str) (v:af)=>∃ k,v = .str u k) us vs->Vals (us.map V.str) vs
 | _,_,.nil=>.nil
 | _,_,.cons r t=>.cons r (jS t)
theorem ot {K:Frag} {H:Hp} {F:aw->Prop}:∀ (us:List Str),aK K H F (us.map .str) (us.map V.str)
 | []=>aK.nil
 | u::us=>aK.cons (iA u) (ot us)
theorem Fe {α β:Type} {R:α->β->Prop} {xs:List α} {vs:List β} (h:Paired R xs vs):∀ v∈vs,∃ u,R u v:=by
 induction h with
 | nil=>intro v h;cases h
 | cons r _ ih =>
   intro v h;rcases aD.mp h with rfl | h
   . exact ⟨_,r⟩
   . exact ih v h
theorem wK (h:Paired (fun (u:Str) (v:af)=>∃ k,v = .str u k) us vs):∀ i,i < vs.length->∃ u k,vs.getD i cn = .str u k/\(us.map D.str).getD i .non = .str u:=by
 induction h with
 | nil=>intro i h;cases h
 | cons r _ ih =>
   intro i h;obtain ⟨k,rfl⟩:=r
   cases i with
   | zero=>exact ⟨_,k,rfl,rfl⟩
   | succ i=>exact ih i (by simpa using h)
theorem MD {M:Model} {A:ba} {E:af->ai->Prop} {s:ai} {us:List Str} {vs:List af} (p:Paired (fun (u:Str) (v:af)=>∃ k,v = .str u k) us vs) (h2:2<=vs.length) {Q:oR->ai->Prop} (q:Q oneType' s):wpAny M A (keyKind' vs.toArray) Q E s:=by
 refine kas_kind (T:=.type "str") h2 (fun v hv=>?_) (by decide) (by decide) q;obtain ⟨u,k,rfl⟩:=Fe p v hv;exact jH rfl
theorem OT (p:Paired (fun (u:Str) (v:af)=>∃ k,v = .str u k) us vs) (i j:Nat) (hi:i < vs.length) (hj:j < vs.length) (C:Bool->ai->Prop) (c:C (gB (us.map .str) i j) s):kas_ask prog w A' oneType' vs i j C s:=by
 obtain ⟨u,k,e1,e2⟩:=wK p i hi;obtain ⟨u',k',e3,e4⟩:=wK p j hj;unfold gB at c;rw [e2,e4,FH] at c;unfold kas_ask;rw [e1,e3,keyLt'_oneType];exact oneLt_str c
theorem vk (hc:X.calm = true) (hu:X.A.units+200 < cLine):cL X (.builtin "sorted") (fun xs H Q=>∃ a ts,xs = [.ref a]/\H a = some (Px X a ts)/\ts.length < 64/\∀ p ys F,H p = none->aK X.K H F (dh (ts.map .str)) ys->Q (.ref p) (upd H p (.lst ys))):=by
 intro pins s σ H xs us0 Q I r h;obtain ⟨a,ts,rfl,hH,h64,q⟩:=h;obtain ⟨u,rfl,rx⟩:=vals1 r;cases rx;obtain ⟨hS,_,_⟩:=I.hok a _ hH;refine jv JK He Hf (Hi _) ?_;unfold eQ.«sorted»;refine ab (m:=checkCount "sorted" 1 1 _) (ak (ab (xB (A:=X.A.in1) (I.ok.hd hc) hS (by lia) fun us vs d tk h1 pu pv k1=>ab (qp ?_ ?_))))
 . have hl:us.length = vs.length:=by
    have:=jS pv;have:=this.length;simpa using this
   have lu:us.length < 64:=by rw [pu.length_eq];exact h64
   have l3:vs.length = (us.map D.str).length:=by rw [aj];exact hl.symm
   have hlen:(eE (gB (us.map .str)) vs).length = vs.length:=by
    unfold eE;split
    . rfl
    . rw [aj,(fy vs.length).length_eq,gL]
   have small:∀ i∈(ans (gB (us.map D.str)) (kas_sort vs.length)).toList,i < vs.length:=fun i hi=>by simpa using (fy vs.length).mem_iff.mp hi
   have hv:∃ ys,Vals ys (eE (gB (us.map .str)) vs)/\aK X.K H (fun _=>False) (dh (us.map .str)) ys:=by
    unfold eE dh;have rl:aK X.K H (fun _=>False) (us.map .str) (us.map V.str):=ot us;have vv:=jS pv;by_cases h2:vs.length < 2
    . rw [if_pos h2,if_pos (by lia)];exact ⟨_,vv,rl⟩
    . rw [if_neg h2,if_neg (by lia),<- l3];exact ⟨_,nM vv _ fun i hi=>by rw [aj,hl];exact small i hi,nQ rl _ fun i hi=>by rw [<- l3];exact small i hi⟩
   obtain ⟨ys,vy,ry⟩:=hv;rw [uk pu] at ry;have hL:(h1.push (seqObj "list" vs.toArray 0)).get? h1.objs.size = some (seqObj "list" vs.toArray 0):=aE _ rfl;refine ab (bO (bM ze ⟨_,hL,rfl⟩ xP ?_ (zh _)));refine jZ (s:={ s with heap:=h1.push (seqObj "list" vs.toArray 0),drawn:=d,toks:=tk }) (lt:=gB (us.map .str)) (κ:=oneType') hL (by lia) hlen (fun h2 h' kp C c=>MD pv h2 c) (fun h' kp i j hi hj C c=>OT pv i j hi hj C c) ?_
   . refine ⟨_,rfl,ak ⟨_,rfl,?_⟩⟩;have J:=I.call (h':=h1) (g':=s.gens) (d':=d) (t':=tk) (ch:=[]) (Un.kept k1) (I.hok.kept k1) I.bare (fun b z=>absurd z (by simp));obtain ⟨e,he⟩:=sortedHeap_at (out:=(eE (gB (us.map .str)) vs).toArray) hL
     have old:∀ b o,h1.get? b = some o->(sortedHeap (h1.push (seqObj "list" vs.toArray 0)) h1.objs.size vs (eE (gB (us.map .str)) vs).toArray).get? b = some o:=fun b o e=>by
      have lb:=az e;rw [sortedHeap_old (aJ lb) (by rw [bC];exact bw lb)];exact ag _ e
     refine ⟨.ref h1.objs.size,upd H h1.objs.size (.lst ys),J.laid (t':=tk) old (aA _) ⟨?_,_,e,vy,he⟩,rfl,q _ _ _ (J.hok.fresh (aA _)) ry⟩;rw [ry.length,oj,aj,bR]
     lia
 . have:=(jS pv).length;rw [aj,pu.length_eq] at this;rw [bR]
   lia
end PP
end
section
namespace PP
open PySem PySem.Spec L2 PyProof.Rows
noncomputable def SH (P:aR) (w:bf) (D:aw) (ts:List Str):HO:=.ext (oN P w D ts)
theorem BQ {P:aR} {w:bf} {D:aw} {ts:List Str} (h1 h2:bK) (x:oN P w D ts h1) (k:∀ o,h1.get? D = some o->h2.get? D = some o):oN P w D ts h2:=by
 obtain ⟨es,ep,t,us,g,r⟩:=x;exact ⟨es,ep,t,us,k _ g,r⟩
theorem zF {P:aR} {w:bf} {H:Hp} {h:bK} {D:aw} {ts:List Str} (x:oN P w D ts h):fe P w H h D (SH P w D ts):=by
 refine ⟨x,?_,BQ⟩;obtain ⟨es,ep,t,us,g,r⟩:=x;exact ⟨_,g⟩
noncomputable def yv (P:aR) (w:bf) (D:aw) (te:TE):TU:=fun σ H Q=>te σ H fun y H'=>∃ x ts,y = .str x/\H' D = some (SH P w D ts)/\ts.length+1 < scanBound/\Q σ (upd H' D (SH P w D (ko ts x)))
theorem EN {X:Cx} {elt:aI} {te:TE} {D:aw} (he:PE X elt te):PU X (do let v <- eval elt X.env;standAt elt.pos;let _ <- call (.builtin "set.add") [.ref D,v]) (yv X.prog X.w D te):=by
 intro pins s σ H Q I h;refine ab (thn (he pins s σ H _ I h) fun u s1 ⟨y,H1,I1,r1,x,ts,e,hD,hz,q⟩=>ab (fG (ab ?_)));subst e;obtain ⟨tk,rfl⟩:=r1;obtain ⟨hS,_,_⟩:=I1.hok D _ hD;refine GW hS hz fun h' sb hx=>ak ⟨σ,_,I1.write (o:=SH X.prog X.w D (ko ts x)) (by rw [hD];trivial) (.inl rfl) (fun b o hb e=>sb.extBut b o hb e) ?_ (zF hx),q⟩;obtain ⟨es,ep,t,us,g,r⟩:=hx;exact ⟨_,g⟩
noncomputable def tIn (P:aR) (w:bf) (wi:TI) (g:TG) (tt:TT) (D:aw) (te:TE):TU:=fun σ H Q=>wi σ H fun J H'=>tLp J g tt (yv P w D te) σ H' Q
noncomputable def tTr:TT:=fun _ H Q=>Q true H
section
variable {prog:aR} {w:bf} {A:ba} {R:rT->ai->Prop} {s:ai}
theorem sH (hg:gs[d]? = some g) (ha:g.is_async = 0)
 (h0:codeAny (model prog w) A (.compLoop (.SetComp elt gs scope pos) d it acc env) R s)
 (h:wpAny (model prog w) A (pyIter it) (fun it' s'=>codeAny (model prog w) A (.compLoop (.SetComp elt gs scope pos) d it' acc env) R s') (notedBy (model prog w) A env fun x s'=>R (.error x) s') s) :
 codeAny (model prog w) A (.compStart (.SetComp elt gs scope pos) d it acc env) R s:=by
 apply xQ;show wpAny _ _ ((compStart (.SetComp elt gs scope pos) d it acc env).onRaise (fun x=>do noteFrame x env;standAt theWindowsPlace)) _ _ s;apply wpAny_notedAt;unfold compStart;have hc:(clausesOf (.SetComp elt gs scope pos))[d]? = some g:=hg;rw [hc];have hn:(Option.elim (some g) false fun x=>x.is_async != 0) = false:=by show (g.is_async != 0) = false;rw [ha];rfl
 rw [hn];show wpAny _ _ (ask >>= fun _=>_) _ _ s;refine ab (dJ (wpAny_ite ?_));split
 . exact ak ⟨rfl,h0⟩
 . exact ab (gQ (ab (fG (ab (iV h (fun it' s' h'=>ak ⟨rfl,h'⟩) fun _ _ x=>x)))))
end
theorem By (elt t1 i1 t2 i2:aI) (f1 f2:List aI) (scope:en) (pos:Pos) (it acc:af) (env:Env):compTurn (.SetComp elt [⟨t1,i1,f1,0⟩,⟨t2,i2,f2,0⟩] scope pos) 1 it acc env = (do
 standAt i2.pos
 match <- pyNext it with
 | none=>pure (.done .next)
 | some v =>
   letOwnedTupleGo t2 it v
   assign t2 env v
   let mut ok:=true
   for c in f2 do
    if ok then ok <- isTrue c env (eval c env)
   if ok then (do let v <- eval elt env;standAt elt.pos;let _ <- call (.builtin "set.add") [acc,v])
   again (.compLoop (.SetComp elt [⟨t1,i1,f1,0⟩,⟨t2,i2,f2,0⟩] scope pos) 1 it acc env)):=by rfl
theorem Bz (elt t1 i1 t2 i2:aI) (f1 f2:List aI) (scope:en) (pos:Pos) (it acc:af) (env:Env):compTurn (.SetComp elt [⟨t1,i1,f1,0⟩,⟨t2,i2,f2,0⟩] scope pos) 0 it acc env = (do
 standAt i1.pos
 match <- pyNext it with
 | none=>pure (.done .next)
 | some v =>
   letOwnedTupleGo t1 it v
   assign t1 env v
   let mut ok:=true
   for c in f1 do
    if ok then ok <- isTrue c env (eval c env)
   if ok then (do
    let x <- eval i2 env
    standAt i2.pos
    let x <- foldedSetIterable i2 env x
    let _ <- runOwn (.compStart (.SetComp elt [⟨t1,i1,f1,0⟩,⟨t2,i2,f2,0⟩] scope pos) 1 (<- holding [x] (pyIter x)) acc env) env)
   again (.compLoop (.SetComp elt [⟨t1,i1,f1,0⟩,⟨t2,i2,f2,0⟩] scope pos) 0 it acc env)):=by
 unfold compTurn;simp only [List.getElem?_cons_zero,kz,bne_self_eq_false,aO,if_false,bind_assoc,pure_bind];rfl
theorem EM {X:Cx} {elt t1 i1 t2 i2:aI} {f1 f2:List aI} {scope:en} {pos:Pos} {wi:TI} {g:TG} {tt:TT} {te:TE} {D:aw} (hx:X.xe = fun _ _=>False) (hc:X.calm = true)
 (hi:PI X t2 i2 wi) (hg:PG X t2 g) (ht:PTs X f2 tt) (he:PE X elt te) (hs:∀ x,foldedSetIterable i2 X.env x = pure x) :
 PU X (do
  let x <- eval i2 X.env
  standAt i2.pos
  let x <- foldedSetIterable i2 X.env x
  let _ <- runOwn (.compStart (.SetComp elt [⟨t1,i1,f1,0⟩,⟨t2,i2,f2,0⟩] scope pos) 1 (<- holding [x] (pyIter x)) (.ref D) X.env) X.env) (tIn X.prog X.w wi g tt D te):=by
 intro pins s σ H Q I h;refine ab (thn (hi pins s σ H _ I h) fun v s1 h1=>ab (fG (ab (gf (hs v) (ab (bO (thn h1 fun itv s2 h2=>?_)))))));obtain ⟨it,fp,tn,J,H2,e,I2,T,st2,f2',q⟩:=h2;subst e;refine ab (wpAny_runOwn (h:=none) ?_);rw [show X.A.mark none = X.A from rfl]
 have loop:∀ (R:rT->ai->Prop),(∀ s' σ' H',Inv X pins σ' H' s'->Q σ' H'->R (.ok .next) s')->codeAny (model X.prog X.w) X.A (.compLoop (.SetComp elt [⟨t1,i1,f1,0⟩,⟨t2,i2,f2,0⟩] scope pos) 1 (.ref it) (.ref D) X.env) R s2:=fun R hR =>
  AE (e:=.SetComp elt [⟨t1,i1,f1,0⟩,⟨t2,i2,f2,0⟩] scope pos) (d:=1) (acc:=.ref D) (ip:=i2.pos) (body:=(do let v <- eval elt X.env;standAt elt.pos;let _ <- call (.builtin "set.add") [.ref D,v])) hx hc rfl rfl rfl (By ..) T hg ht (EN he) I2 st2 f2' q hR
 refine sH (g:=⟨t2,i2,f2,0⟩) rfl rfl (loop _ ?_) (T.self _ _ _ _ _ st2 (loop _ ?_))
 . exact fun s' σ' H' J' q'=>ak ⟨σ',H',J',q'⟩
 . exact fun s' σ' H' J' q'=>ak ⟨σ',H',J',q'⟩
noncomputable def tSC (P:aR) (w:bf) (k:Nat) (w1:TI) (g1:TG) (w2:TI) (g2:TG) (tt:TT) (te:TE):TE:=fun σ H Q=>w1 σ H fun J H1=>∀ D,H1 D = none ->
 tLp J g1 tTr (tIn P w w2 g2 tt D te) (σ++aC k none) (upd H1 D (SH P w D [])) fun _ H2=>Q (.ref D) H2
noncomputable def oz (led:Bool):Obj:={ cls:=.type "set",dict:=none,data:=.set #[] 0 (.fresh 0 0 led) }
theorem Cf {prog:aR} {w:bf} {A:ba} {E:af->ai->Prop} {s:ai} {Q:af->ai->Prop} (h:Q (.ref s.heap.objs.size) { s with heap:=s.heap.push (oz (!w.params.followText "set-order")) }):wpAny (model prog w) A (newSet (.type "set")) Q E s:=by
 unfold newSet setsByText;simp only [bind_assoc,pure_bind];exact ab (dJ (bt h))
theorem BW
 (hx:X.xe = fun _ _=>False) (hc:X.calm = true) (S:oP X scope) (hN:∀ i x,i < X.N.length->Nc[i]? = some x->Vis scope x->X.N[i]? = some x/\scope.names.lookup x = some .free) (hl:X.N.length<=Nc.length)
 (hi:PI X t1 i1 w1) (hg:∀ cl C s H fp,PG (cxC X scope cl C Nc s H fp) t1 g1) (hi2:∀ cl C s H fp,PI (cxC X scope cl C Nc s H fp) t2 i2 w2) (hg2:∀ cl C s H fp,PG (cxC X scope cl C Nc s H fp) t2 g2) (ht:∀ cl C s H fp,PTs (cxC X scope cl C Nc s H fp) f2 tt) (he:∀ cl C s H fp,PE (cxC X scope cl C Nc s H fp) elt te)
 (hs:∀ x,foldedSetIterable i1 X.env x = pure x) (hs2:∀ env x,foldedSetIterable i2 env x = pure x):PE X (.SetComp elt [⟨t1,i1,[],0⟩,⟨t2,i2,f2,0⟩] scope pos) (tSC X.prog X.w (Nc.length - X.N.length) w1 g1 w2 g2 tt te):=by
 intro pins s σ H Q I h;have ee:eval (.SetComp elt [⟨t1,i1,[],0⟩,⟨t2,i2,f2,0⟩] scope pos) X.env = comprehension (.SetComp elt [⟨t1,i1,[],0⟩,⟨t2,i2,f2,0⟩] scope pos) scope X.env i1.pos (newSet (.type "set")) false (eval i1 X.env):=by rfl
 rw [ee];refine lx (use:=none) rfl hs (yU fun x hz=>I.ok.has x (S.free x hz)) S.kind S.names (thn (hi pins s σ H _ I h) fun v s1 h1=>thn h1 fun itv s2 h2=>?_);obtain ⟨it,fp,tn,J,H2,e,I2,T,st2,f2',q⟩:=h2;subst e;refine Cf ?_;have hfr:=I2.fresh;generalize hno:oz (!X.w.params.followText "set-order") = no;have gD:(s2.heap.push no).get? s2.heap.objs.size = some no:=aE _ (by rw [<- hno];rfl)
 have sx:oN X.prog X.w s2.heap.objs.size [] (s2.heap.push no):=by
  subst hno;exact ⟨#[],0,.fresh 0 0 (!X.w.params.followText "set-order"),[],gD,rfl,rfl,.inl rfl,.refl _,fun e he=>by simp at he,.nil⟩
 have I3:Inv X pins σ (upd H2 s2.heap.objs.size (SH X.prog X.w s2.heap.objs.size [])) { s2 with heap:=s2.heap.push no }:=I2.laid (t':=s2.toks) (fun b u e=>ag _ e) (aA _) (zF sx);have st3:tn 0 (s2.heap.push no):=T.keep _ _ _ st2 fun b _ o e=>ag _ e
 have fl3:∀ b∈fp,b < s2.heap.objs.size:=fun b hb=>by
  obtain ⟨o,e,_⟩:=T.obj _ _ st2 b hb;exact az e
 have ne3:∀ b∈fp,upd H2 s2.heap.objs.size (SH X.prog X.w s2.heap.objs.size []) b = none:=fun b hb=>by rw [bA (aJ (fl3 b hb))];exact (f2' b hb).1
 have f3:∀ b∈fp,kq X pins (upd H2 s2.heap.objs.size (SH X.prog X.w s2.heap.objs.size [])) b:=fun b hb=>⟨ne3 b hb,(f2' b hb).2⟩;have q3:=q s2.heap.objs.size hfr;generalize hH3:upd H2 s2.heap.objs.size (SH X.prog X.w s2.heap.objs.size []) = H3 at I3 ne3 f3 q3;generalize hs3:({ s2 with heap:=s2.heap.push no }:ai) = s3 at I3;have hs3h:s3.heap = s2.heap.push no:=by rw [<- hs3]
 rw [<- hs3h] at st3;have fl4:∀ b∈fp,b < s3.heap.objs.size:=fun b hb=>by rw [hs3h,bC];exact bw (fl3 b hb)
 refine iZ S.nocell (by intro y hy;simp at hy) (fun h1 hns hsb=>?_) S.kind;have keep1:∀ b o,s3.heap.get? b = some o->h1.get? b = some o:=fun b o e=>hsb.extBut b o (aJ (az e)) (ag _ e);have J0:=oA (h1:=h1) (t1:=s3.toks+([]:List (Str × af)).length) S I3 f3 fl4 rfl (by simpa using hns) keep1 hN hl;have st4:tn 0 h1:=T.keep _ _ _ st3 fun b _ o e=>keep1 b o e
 have loop:∀ s4:ai,s4 = { s3 with heap:=h1,toks:=s3.toks+([]:List (Str × af)).length } ->
  codeAny (model X.prog X.w) X.A (.compLoop (.SetComp elt [⟨t1,i1,[],0⟩,⟨t2,i2,f2,0⟩] scope pos) 0 (.ref it) (.ref s2.heap.objs.size) (compEnvC scope (ij X.env scope.names []) s3.heap.objs.size X.env))
   (compPost (model X.prog X.w) X.A X.xe none (EP X pins σ Q) (.ref s2.heap.objs.size) s3.heap.objs.size) s4:=by
  rintro s4 rfl;refine AE (X:=cxC X scope (ij X.env scope.names []) s3.heap.objs.size Nc s3 H3 fp) (ip:=i1.pos) (ifs:=[]) (tt:=tTr) rfl hc rfl rfl rfl (Bz ..) T (hg _ _ _ _ _) zO (EM rfl hc (hi2 _ _ _ _ _) (hg2 _ _ _ _ _) (ht _ _ _ _ _) (he _ _ _ _ _) (hs2 _)) J0 st4 (mr S I3 f3 fl4 rfl ne3) q3 ?_;intro s' σ' H' J' q';obtain ⟨m,hn,_⟩:=J'.loc;exact ⟨m,hn,fun h2 hs2=>⟨.ref s2.heap.objs.size,H',mq I3 f3 rfl J' hs2,rfl,q'⟩⟩
 exact sH (g:=⟨t1,i1,[],0⟩) rfl rfl (loop _ rfl) (T.self _ _ _ _ _ st4 (loop _ rfl))
section
variable {prog:aR} {w:bf} {A:ba} {R:rT->ai->Prop} {I:aw} {fp wr:List aw} {G:Array lU->Array lU->Prop} {n:Nat} {P:Nat->af->Prop} {St:Nat->ai->Prop}
end
section
variable {prog:aR} {w:bf} {A:ba} {E:af->ai->Prop} {s:ai}
theorem ve (a:af) {Q₁:af->ai->Prop} (h:Q₁ (.ref s.heap.objs.size) { s with heap:=s.heap.push (oz (!w.params.followText "set-order")) }) :
 codeAny (model prog w) A (.call (.builtin "set.__new__") ⟨[.type "set",a],[]⟩) (wants Q₁ E) s:=by
 refine xQ (ab (m:=checkBuiltinCall "set.__new__" _) (gf (PySem.F.newCall_set_1 a) (ak ⟨ly PySem.F.plain_set_new _,jt PySem.F.entry_set_new ?_⟩)));rw [ic PySem.F.plain_set_new _];unfold eQ.«set.__new__» Builtin.Frozenset.newClass;have z:=sub_set_self;obtain ⟨hp,g,d,tk,os⟩:=s;dsimp only
 wp_walk
 refine dJ (ak ?_);dsimp only;simp only [newObj];exact ab (wpAny_alloc (ak (ak h)))
theorem yz {l:aw} {items:Array af} {Z:bK->Prop} {Q:af->ai->Prop} (hh:A.handled = none) (hl:s.heap.IsList l items)
 (loop:∀ (A':ba) (I:aw) (St:Nat->ai->Prop) (G:Array lU->Array lU->Prop) (s1:ai) (R:rT->ai->Prop),I = s.heap.objs.size+1->A'.units<=A.units+10->WalksS prog w A'.in1 I [I,l] [I] G items.size (fun i v=>items[i]? = some v) St->s.heap.objs.size∉[I,l]->St 0 s1->(∀ b o,s.heap.get? b = some o->s1.heap.get? b = some o)->s1.heap.get? s.heap.objs.size = some (oz (!w.params.followText "set-order")) ->
   (∀ s',Moved [s.heap.objs.size,I] G s1 s'->Z s'.heap->R (.ok (.ret .none)) s')->codeAny (model prog w) A' (.builtin "set.update.loop" ⟨[.ref s.heap.objs.size,.ref I],[]⟩) R s1)
 (h:∀ (h':bK) (tk:Nat),Z h'->(∀ b o,s.heap.get? b = some o->h'.get? b = some o)->Q (.ref s.heap.objs.size) { s with heap:=h',toks:=tk }) :
 wpAny (model prog w) A (call (.type "set") [.ref l]) Q E s:=by
 obtain ⟨c,tl,hmro⟩:=PySem.F.called_set.mro;have y1:=PySem.F.called_set.made;have y2:=PySem.F.called_set.sub;have y3:=PySem.F.called_set.notType;have y4:=PySem.F.called_set.canCreate;have y5:=PySem.F.typeCall_set_1 (.ref l);refine zc (xQ (ak ⟨Code.quiet_builtin _ (by decide +kernel),jt PySem.F.entry_type_call ?_⟩));rw [Around.under_plain (weight_type_call_type "set" [.ref l] []) rfl]
 repeat (any_goals (first | assumption | wp_step))
 refine iu (ve (.ref l) (E:=E) (Q₁:=fun v s1=>v = .ref s.heap.objs.size/\s1 = { s with heap:=s.heap.push (oz (!w.params.followText "set-order")) }) ⟨rfl,rfl⟩) fun r s1 hr=>?_
 cases r with
 | error e=>exact hr
 | ok fl =>
   cases fl with
   | ret v =>
     obtain ⟨rfl,rfl⟩:=hr;have gS:(s.heap.push (oz (!w.params.followText "set-order"))).get? s.heap.objs.size = some (oz (!w.params.followText "set-order")):=aE _ rfl;have hT:Shared.TypeIs { s with heap:=s.heap.push (oz (!w.params.followText "set-order")) } (.ref s.heap.objs.size) "set":=⟨_,gS,rfl⟩;have y6:=PySem.F.called_set.init.lookup;have y7:=PySem.F.called_set.init.bind (.ref s.heap.objs.size)
     repeat (any_goals (first | assumption | wp_step))
     refine iu (codeAny_call_builtin (R:=wants (fun r s2=>r = .none/\∃ h' tk,s2 = { s with heap:=h',toks:=tk }/\Z h'/\∀ b o,s.heap.get? b = some o->h'.get? b = some o) E) PySem.F.called_set.init.plain PySem.F.entry_set_init (check_set_init_1 hT ?_)) fun r2 s2 hr2=>?_
     . obtain ⟨ol,hol,hcl,nl,hdl⟩:=hl;obtain ⟨ocls,odict,odata,oslots⟩:=ol;simp only at hcl hdl;subst hcl;subst hdl;have hol':(s.heap.push (oz (!w.params.followText "set-order"))).get? l = some { cls:=.type "list",dict:=odict,data:=.seq items nl,slots:=oslots }:=ag _ hol;have y8:=PySem.F.sub_list_set;have y9:=PySem.F.sub_list_frozenset;have ya:(sv "list" == sv "dict") = false:=by decide
       have hl1:(s.heap.push (oz (!w.params.followText "set-order"))).IsList l items:=⟨_,hol',rfl,nl,rfl⟩;unfold oz at gS hT hol' hl1 ⊢;unfold eQ.«set.__init__» noKeywords Builtin.Frozenset.updateFrom;generalize hPI:pyIter = PI
       wp_walk
       subst hPI;refine ir hl1 (ab (wpAny_runValue ?_));have lS:l < s.heap.objs.size:=az hol;have z1:(s.heap.push (oz (!w.params.followText "set-order"))).objs.size = s.heap.objs.size+1:=bC _ _;unfold oz at z1;refine loop _ _ _ _ _ _ z1 (by show A.units+1+1<=A.units+10;lia) ((CK (by simp [hh]) _ l (by rw [z1];exact aJ (bw lS)) items).toS) (by rw [z1];simp only [aD,cz,or_false,not_or];exact ⟨aJ (eL _),eY lS⟩) ⟨⟨_,aE _ rfl,rfl,rfl⟩,(hl1.push _)⟩ (fun b o e=>ag _ (ag _ e)) (ag _ gS) ?_
       . intro s' m hS';obtain ⟨h',g',d',tk',os'⟩:=s';have eg:g' = s.gens:=m.gens;have ed:d' = s.drawn:=m.drawn;have eo:os' = s.os:=m.os;subst eg ed eo;refine ak (ak ⟨rfl,h',tk',rfl,hS',fun b o e=>?_⟩);have lb:=az e;refine m.heap b o ?_ (ag _ (ag _ e));simp only [aD,cz,or_false,not_or];exact ⟨aJ lb,by rw [z1];exact aJ (bw lb)⟩
     . cases r2 with
       | error e=>exact hr2
       | ok fl2 =>
         cases fl2 with
         | ret r =>
           obtain ⟨rfl,h',tk,rfl,x1,x2⟩:=hr2
           repeat (any_goals (first | assumption | wp_step))
           exact h _ _ x1 x2
         | _=>exact hr2.elim
   | _=>exact hr.elim
end
variable [Tbs]
end PP
end
section
namespace PP
open PySem PySem.Spec L2 PyProof.Rows
noncomputable def gz (ps:List (D × V)) (p:D × V):List (D × V):=if ps.any (fun q=>eqD q.1 p.1) then ps else ps++[p]
theorem GY (ps:List (D × V)) (p:D × V):(gz ps p).map (·.1) = pR (ps.map (·.1)) p.1:=by
 unfold gz pR;rw [List.any_map];show _ = if (ps.any fun q=>eqD q.1 p.1) = true then _ else _
 split
 . rfl
 . rw [bE];rfl
theorem tF:∀ (xs ps:List (D × V)),(xs.foldl gz ps).map (·.1) = (xs.map (·.1)).foldl pR (ps.map (·.1))
 | [],ps=>rfl
 | x::xs,ps=>by rw [dN,tF xs,GY];rfl
theorem tB:∀ (xs ps:List (D × V)),q∈xs.foldl gz ps->q∈ps\/q∈xs
 | [],ps,h=>.inl h
 | x::xs,ps,h=>by
   rcases tB xs (gz ps x) h with h | h
   . unfold gz at h;split at h
     . exact .inl h
     . rcases br.mp h with h | h
       . exact .inl h
       . rw [bU] at h;exact .inr (by rw [h];exact ao)
   . exact .inr (aq _ h)
theorem xK (ps:List (D × V)) (p:D × V):ps.length<=(gz ps p).length:=by
 unfold gz;split
 . exact aA _
 . simp
theorem tD:∀ (xs ps:List (D × V)),ps.length<=(xs.foldl gz ps).length
 | [],ps=>aA _
 | x::xs,ps=>aX (xK ps x) (tD xs _)
noncomputable def vv:V->af
 | .ref a=>.ref a
 | _=>.none
noncomputable def xt (w:bf) (p:D × V):Int × af:=(hD w p.1,vv p.2)
variable [Tbs]
theorem AN {ps:List (D × V)} {d:D} (hd:hok d = true) (hp:∀ q∈ps,hok q.1 = true):(ps.any fun q=>eqD q.1 d) = true↔d∈ps.map (·.1):=by
 rw [eH,aU];constructor
 . rintro ⟨q,h1,h2⟩;exact ⟨q,h1,(gE _ _ (eZ (hp q h1)).1 (eZ hd).1).mp h2⟩
 . rintro ⟨q,h1,h2⟩;exact ⟨q,h1,(gE _ _ (eZ (hp q h1)).1 (eZ hd).1).mpr h2⟩
theorem xu {w:bf} {h:bK}:∀ (ps:List (D × V)),(∀ q∈ps,hok q.1 = true/\RdV h q.1 (vv q.2))->Nt w h (ps.map (·.1)) (ps.map (xt w))
 | [],_=>.nil
 | q::ps,hq=>.cons ⟨rfl,hq q ao⟩ (xu ps fun r hr=>hq r (aq _ hr))
section
variable {prog:aR} {w:bf} {A:ba} {R:rT->ai->Prop} {I:aw} {fp wr:List aw} {G:Array lU->Array lU->Prop} {n:Nat} {P:Nat->af->Prop} {St:Nat->ai->Prop}
theorem DU (hu:A.units+40 < cLine) (W:WalksS prog w A.in1 I fp wr G n P St) (S:aw) (hSf:S∉fp) (h0:bK) (n0:∀ b∈S::wr,h0.get? b = none) (xs:List (D × V)) (hx:∀ i v,P i v->∃ q,xs[i]? = some q/\v = vv q.2) (hr:∀ q∈xs,hok q.1 = true/\RdV h0 q.1 (vv q.2)) (hn:xs.length = n) :
 ∀ (k i:Nat) (s:ai) (ps:List (D × V)),n - i = k->i<=n->(∀ q∈ps,hok q.1 = true/\RdV h0 q.1 (vv q.2))->((xs.drop i).foldl gz ps).length < 64->St i s->(∀ b o,h0.get? b = some o->s.heap.get? b = some o)->nN w S (ps.map (xt w)) s.heap ->
  (∀ s',Moved (S::wr) G s s'->nN w S (((xs.drop i).foldl gz ps).map (xt w)) s'.heap->R (.ok (.ret .none)) s')->codeAny (model prog w) A (.builtin "set.update.loop" ⟨[.ref S,.ref I],[]⟩) R s:=by
 have nw:S∉wr:=fun z=>hSf (W.sub _ z);have sub:∀ b∈wr,b∈S::wr:=fun b z=>.tail _ z;have stay:∀ {s s':ai} {ys:List (Int × af)},Moved wr G s s'->nN w S ys s.heap->nN w S ys s'.heap:=fun m ⟨es,ep,t,g,r⟩=>⟨es,ep,t,m.heap S _ nw g,r⟩;have keep:∀ {s s':ai},Moved wr G s s'->(∀ b o,h0.get? b = some o->s.heap.get? b = some o)->∀ b o,h0.get? b = some o->s'.heap.get? b = some o:=fun m hk b o e=>m.heap b o (fun z=>by rw [n0 b (sub b z)] at e;cases e) (hk b o e);intro k
 induction k with
 | zero =>
   intro i s ps hk hi hp hl st h0k hS fin;obtain rfl:i = n:=by lia
   refine jt jK ?_;rw [ic cW _];refine ab (m:=pyNext (.ref I)) (W.done s _ _ st fun s' m=>ak (fin s' (m.mono sub) ?_));rw [List.drop_of_length_le (by lia)]
   exact stay m hS
 | succ k ih =>
   intro i s ps hk hi hp hl st h0k hS fin;refine jt jK ?_;rw [ic cW _];refine ab (m:=pyNext (.ref I)) (W.item i s _ _ (by lia) st fun v s1 p st1 m=>?_);obtain ⟨q,hq,rfl⟩:=hx i v p;obtain ⟨q1,q2⟩:=hr q (bB hq);have hk1:=keep m h0k;have hlt:i < xs.length:=by lia
   have ed:xs.drop i = q::xs.drop (i+1):=by
    rw [fX hlt];congr 1;rw [ax hlt] at hq;exact aY hq
   rw [ed,dN] at hl fin;have l1:=tD (xs.drop (i+1)) (gz ps q);have l2:=xK ps q
   have hp1:∀ r∈gz ps q,hok r.1 = true/\RdV h0 r.1 (vv r.2):=fun r hr'=>by
    unfold gz at hr';split at hr'
    . exact hp r hr'
    . rcases br.mp hr' with z | z
      . exact hp r z
      . rw [bU] at z;rw [z];exact ⟨q1,q2⟩
   refine ab (m:=holding [vv q.2] (setAdd S (vv q.2))) (bO (EB (ds:=ps.map (·.1)) (d:=q.1) (by show A.units+1+20 < cLine;lia) (stay m hS) (xu ps fun r hr'=>⟨(hp r hr').1,RdV.keep hk1 _ _ (hp r hr').2⟩) q1 (RdV.keep hk1 _ _ q2) (by rw [aj];lia) (fun hm=>?_) fun hm h' sb hS1=>?_))
   . have ea:gz ps q = ps:=by
      unfold gz;rw [if_pos ((AN q1 fun r hr'=>(hp r hr').1).mpr hm)]
     rw [ea] at hl fin;refine ak ⟨ly cW _,ih (i+1) _ ps (by lia) (by lia) hp hl (W.frame _ s1 _ _ st1 (fW _ _) fun b z o e=>e) hk1 (show nN w S _ s1.heap from stay m hS) fun s2 m2 hS2=>fin s2 (Moved.trans W.gtrans ((m.mono sub).then_heap (fW _ _) fun b o z e=>e) m2) hS2⟩
   . have ea:gz ps q = ps++[q]:=by
      unfold gz;rw [if_neg fun z=>hm ((AN q1 fun r hr'=>(hp r hr').1).mp z)]
     have em:ps.map (xt w)++[(hD w q.1,vv q.2)] = (gz ps q).map (xt w):=by rw [ea,bE];rfl
     rw [em] at hS1;refine ak ⟨ly cW _,ih (i+1) _ (gz ps q) (by lia) (by lia) hp1 hl (W.frame _ s1 _ _ st1 (fW _ _) fun b z o e=>?_) (fun b o e=>?_) hS1 fun s2 m2 hS2=>fin s2 (Moved.trans W.gtrans ((m.mono sub).then_heap (fW _ _) fun b o z e=>?_) m2) hS2⟩
     . rw [sb.2 b (fun z'=>hSf (z'▸z))];exact e
     . rw [sb.2 b (fun z'=>by rw [z',n0 S ao] at e;cases e)];exact hk1 b o e
     . rw [sb.2 b (fun z'=>z (z'▸ao))];exact e
end
section
variable {prog:aR} {w:bf} {A:ba} {E:af->ai->Prop} {s:ai}
theorem Co (fg mv:Nat) (led:Bool):TbI (.fresh fg mv led) []:=⟨.inl rfl,rfl,.nil,fun j h=>by simp [SetTable.fresh] at h,rfl,cu _,fun i j h a=>by simp [SetTable.fresh] at a⟩
theorem wg {l:aw} {items:Array af} {xs:List (D × V)} {Q:af->ai->Prop} (hu:A.units+100 < cLine) (hh:A.handled = none) (hl:s.heap.IsList l items) (hi:items.toList = xs.map fun q=>vv q.2) (hr:∀ q∈xs,hok q.1 = true/\RdV s.heap q.1 (vv q.2)) (hb:(xs.foldl gz []).length < 64)
 (h:∀ (h':bK) (tk:Nat),nN w s.heap.objs.size ((xs.foldl gz []).map (xt w)) h'->(∀ b o,s.heap.get? b = some o->h'.get? b = some o)->Q (.ref s.heap.objs.size) { s with heap:=h',toks:=tk }) :
 wpAny (model prog w) A (call (.type "set") [.ref l]) Q E s:=by
 have hxs:xs.length = items.size:=by
  rw [<- aZ,hi,aj]
 refine yz (Z:=nN w s.heap.objs.size ((xs.foldl gz []).map (xt w))) hh hl (fun A' I St G s1 R eI hA W hS st k gS fin=>?_) h;refine DU (by lia) W s.heap.objs.size hS s.heap (fun b hb=>?_) xs (fun i v hv=>?_) hr hxs (items.size - 0) 0 s1 [] (by lia) (cu _) (fun q hq=>by cases hq) hb st k ⟨#[],0,.fresh 0 0 (!w.params.followText "set-order"),gS,Co _ _ _,rfl,.inl rfl,.refl _,by show 0 * 5 < 7 * 3;decide⟩ fin
 . cases e:s.heap.get? b with
   | none=>rfl
   | some o =>
     have:=az e;simp only [aD,cz,or_false] at hb;rcases hb with z | z
     . rw [z] at this;exact absurd this (cy _)
     . rw [z,eI] at this;exact absurd this (Nat.not_lt.mpr (jL _))
 . have e:items.toList[i]? = some v:=by rw [Array.getElem?_toList];exact hv
   rw [hi,bj] at e;obtain ⟨q,q1,q2⟩:=aG.mp e;exact ⟨q,q1,q2.symm⟩
end
section
variable {K:PySem.W.Frag} {H:Hp} {F:aw->Prop}
theorem qR:∀ {ds:List D} {xs:List V},aK K H F ds xs->(ds.zip xs).map (·.1) = ds/\(ds.zip xs).map (·.2) = xs/\∀ q∈ds.zip xs,Rel K H F q.1 q.2
 | [],xs,r=>by unfold aK at r;subst r;exact ⟨rfl,rfl,fun q h=>by cases h⟩
 | d::ds,xs,r=>by
   unfold aK at r;obtain ⟨y,ys,rfl,h1,h2⟩:=r;obtain ⟨a,b,c⟩:=qR h2;refine ⟨by simp [a],by simp [b],fun q hq=>?_⟩;rcases aD.mp hq with rfl | hq
   . exact h1
   . exact c q hq
theorem sN:∀ (ps:List (D × V)),(∀ q∈ps,Rel K H F q.1 q.2)->aK K H F (ps.map (·.1)) (ps.map (·.2))
 | [],_=>aK.nil
 | q::ps,h=>aK.cons (h q ao) (sN ps fun r hr=>h r (aq _ hr))
theorem Al {d:D} {v:V} (k:hok d = true) (r:Rel K H F d v):∃ a,v = .ref a:=by
 obtain ⟨_,_,x,ds,rfl⟩:=eZ k;unfold Rel at r;obtain ⟨a,xs,rfl,_⟩:=r;exact ⟨a,rfl⟩
theorem zt:∀ (ps:List (D × V)),(∀ q∈ps,∃ a,q.2 = .ref a)->Vals (ps.map (·.2)) (ps.map fun q=>vv q.2)
 | [],_=>.nil
 | q::ps,h=>by
   refine .cons ?_ (zt ps fun r hr=>h r (aq _ hr));obtain ⟨a,e⟩:=h q ao;show RelV q.2 (vv q.2);rw [e];rfl
end
theorem sF:∀ {ps:List (D × V)} {us:List af},(∀ q∈ps,∃ a,q.2 = .ref a)->Vals (ps.map (·.2)) us->us = ps.map fun q=>vv q.2
 | [],us,_,h=>by cases h;rfl
 | q::ps,us,hq,h=>by
   cases h with
   | cons r t =>
     obtain ⟨a,e⟩:=hq q ao;have r:RelV q.2 _:=r;rw [e] at r;have r':_ = cT a:=r;rw [aP,e,r',sF (fun r hr=>hq r (aq _ hr)) t];rfl
noncomputable def Iw (X:Cx) (p:aw) (ps:List (D × V)):HO:=.ext (nN X.w p (ps.map (xt X.w)))
theorem Iv (x:nN w a xs h):fe P w H h a (.ext (nN w a xs)):=by
 refine ⟨x,?_,fun h1 h2 x k=>?_⟩
 . obtain ⟨es,ep,t,g,r⟩:=x;exact ⟨_,g⟩
 . obtain ⟨es,ep,t,g,r⟩:=x;exact ⟨es,ep,t,k _ g,r⟩
theorem Cz {X:Cx} (hc:X.calm = true) (hu:X.A.units+200 < cLine):cL X (.type "set") (fun xs H Q=>∃ F a ds vs,xs = [.ref a]/\SqL X.K H a vs/\aK X.K H F ds vs/\ds.all hok = true/\((ds.zip vs).foldl gz []).length < 64/\∀ p,H p = none->Q (.ref p) (upd H p (Iw X p ((ds.zip vs).foldl gz [])))):=by
 intro pins s σ H xs us0 Q I r h;obtain ⟨F,a,ds,vs,rfl,hq,rl,hk,hz,q⟩:=h;obtain ⟨u,rfl,rx⟩:=vals1 r;cases rx;obtain ⟨its,r',pl,_⟩:=I.list hq;obtain ⟨p1,p2,p3⟩:=qR rl;have hks:∀ q∈ds.zip vs,hok q.1 = true:=fun q hq=>bx.mp hk q.1 (by rw [<- p1];exact iW hq);have refs:∀ q∈ds.zip vs,∃ a,q.2 = .ref a:=fun q hq=>Al (hks q hq) (p3 q hq);rw [<- p2] at r';have ei:=sF refs r';refine wg (xs:=ds.zip vs) (by lia) (I.ok.hd hc) pl.isList (by rw [ei]) (fun q hq=>⟨hks q hq,?_⟩) hz fun h' tk hS k=>?_
 . obtain ⟨b,e⟩:=refs q hq;exact yC I q.1 q.2 _ (p3 q hq) (by rw [e];rfl) (Am (hks q hq))
 . have ok:=Iv (P:=X.prog) (H:=upd H s.heap.objs.size (Iw X s.heap.objs.size ((ds.zip vs).foldl gz []))) hS;exact ⟨.ref s.heap.objs.size,_,I.laid (t':=tk) k (aA _) ok,rfl,q _ (I.hok.fresh (aA _))⟩
end PP
end
section
namespace PP
open PySem L2 PyProof.Rows PySem.W
theorem zv (h:tot ds = true):(∀ a∈ds,∀ b∈ds,ltB a b = true->ltB b a = false)/\(∀ a∈ds,∀ b∈ds,ltB a b = false->ltB b a = false->eqD a b = true)/\∀ a∈ds,∀ b∈ds,∀ c∈ds,ltB b a = false->ltB c b = false->ltB c a = false:=by
 unfold tot at h;simp only [bx,aa,cD,pJ,Bool.and_eq_false_iff] at h;refine ⟨fun a ha b hb q=>?_,fun a ha b hb q1 q2=>?_,fun a ha b hb c hc q1 q2=>?_⟩
 . rcases (h a ha b hb).1.1 with z | z
   . rw [q] at z;cases z
   . exact z
 . rcases (h a ha b hb).1.2 with (z | z) | z
   . rw [q1] at z;cases z
   . rw [q2] at z;cases z
   . exact z
 . rcases (h a ha b hb).2 c hc with (z | z) | z
   . rw [q1] at z;cases z
   . rw [q2] at z;cases z
   . exact z
theorem vX (p:us.Perm ds) (hs:sortable ds = true) (ht:tot ds = true):(dh us).Perm ds/\(dh us).Pairwise fun a b=>ltB b a = false:=by
 obtain ⟨_,_,hlt⟩:=(letI:Tbs:=⟨[],[],[]⟩;dt hs);obtain ⟨t1,t2,t3⟩:=zv ht
 cases ds with
 | nil =>
   have:us = []:=List.perm_nil.mp p;subst this
   exact ⟨.refl _,.nil⟩
 | cons d0 dr =>
   letI:Inhabited { d // d∈d0::dr }:=⟨⟨d0,ao⟩⟩
   have e:(us.attachWith (·∈d0::dr) fun x hx=>p.mem_iff.mp hx).map xR = us:=List.attachWith_map_subtype_val ..
   obtain ⟨ys,e1,p1,u1⟩:=vW (α:={ d // d∈d0::dr }) xR (fun a b=>ltB a.1 b.1) (fun x y=>by
    obtain ⟨k,hk⟩:=hlt x.1 x.2 y.1 y.2;rw [hk];unfold ltB;rw [hk];rfl) (fun a b h=>t1 a.1 a.2 b.1 b.2 h) (fun a b c h1 h2=>t3 a.1 a.2 b.1 b.2 c.1 c.2 h1 h2) (us.attachWith (·∈d0::dr) fun x hx=>p.mem_iff.mp hx)
   rw [e] at e1;rw [e1];refine ⟨?_,?_⟩
   . have:=p1.map xR;rw [e] at this;exact this.trans p
   . exact pD.mpr (zu (lt:=fun (a b:{ d // d∈d0::dr })=>ltB a.1 b.1) u1)
theorem yw (p:us.Perm ds) (hs:sortable ds = true) (ht:tot ds = true) (hb:∀ d∈ds,hb d = true):dh us = dh ds:=by
 obtain ⟨p1,u1⟩:=vX p hs ht;obtain ⟨p2,u2⟩:=vX (.refl ds) hs ht;obtain ⟨_,t2,_⟩:=zv ht;refine rW (fun x y hx hy h1 h2=>?_) u1 u2 (p1.trans p2.symm);have mx:=p1.mem_iff.mp hx;have my:=p2.mem_iff.mp hy;exact (gE x y (hb x mx) (hb y my)).mp (t2 x mx y my h2 h1)
theorem rZ (p:us.Perm ds) (hs:sortable ds = true):sortable us = true:=by
 obtain ⟨h1,h2,h3⟩:=(letI:Tbs:=⟨[],[],[]⟩;dt hs);unfold sortable;simp only [aa,decide_eq_true_eq,bx];refine ⟨⟨by rw [p.length_eq];exact h1,fun x hx=>?_⟩,fun x hx y hy=>?_⟩
 . have mx:=p.mem_iff.mp hx;obtain ⟨a,b⟩:=h2 x mx
   have:us.getD 0 .non∈ds:=by
    cases us with
    | nil=>cases hx
    | cons u r=>exact p.mem_iff.mp ao
   exact ⟨by simpa using a,by rw [b,(h2 _ this).2];simp⟩
 . obtain ⟨k,hk⟩:=h3 x (p.mem_iff.mp hx) y (p.mem_iff.mp hy);rw [hk];rfl
variable [Tbs]
theorem vj (hc:X.calm = true) (hu:X.A.units+200 < cLine):cL X (.builtin "sorted") (fun xs H Q=>∃ F a ps,xs = [.ref a]/\H a = some (Iw X a ps)/\(∀ q∈ps,hok q.1 = true/\Rel X.K H F q.1 q.2)/\sortable (ps.map (·.1)) = true/\tot (ps.map (·.1)) = true /\
 ∀ p ys,H p = none->aK X.K H F (dh (ps.map (·.1))) ys->Q (.ref p) (upd H p (.lst ys))):=by
 intro pins s σ H xs us0 Q I r h;obtain ⟨F,a,ps,rfl,hH,hps,hs,ht,q⟩:=h;obtain ⟨u,rfl,rx⟩:=vals1 r;cases rx;obtain ⟨⟨es,ep,t,g,T,hl,hp,hq,_⟩,_,_⟩:=I.hok a _ hH;have h64:=(dt hs).1;rw [aj] at h64;refine jv JK He Hf (Hi _) ?_;unfold eQ.«sorted»
 have pw:(es.toList.map (·.2)).Perm (ps.map fun q=>vv q.2):=by
  have:=hq.map (·.2);rw [pE] at this;exact this
 refine ab (m:=checkCount "sorted" 1 1 _) (ak (ab (pC (A:=X.A.in1) (I.ok.hd hc) ⟨es,ep,t,g,fits_of T (by simp),hl,hp,pw⟩ (by rw [aj];lia) fun vs d tk h1 pv k1=>ab (qp ?_ ?_))))
 . obtain ⟨qs,pq,rq⟩:=ox pv ps (R:=fun q v=>v = vv q.2) (by
    have:∀ l:List (D × V),Paired (fun (q:D × V) (v:af)=>v = vv q.2) l (l.map fun q=>vv q.2):=fun l=>by
     induction l with
     | nil=>exact .nil
     | cons x l ih=>exact .cons rfl ih
    exact this ps)
   have ev:vs = qs.map fun q=>vv q.2:=by
    clear pv pq
    induction rq with
    | nil=>rfl
    | cons r _ ih=>rw [aP,ih,r]
   subst ev;have hqs:∀ q∈qs,hok q.1 = true/\Rel X.K H F q.1 q.2:=fun q hq=>hps q (pq.mem_iff.mp hq);have rl:=sN qs fun q hq=>(hqs q hq).2;have vq:=zt qs fun q hq=>Al (hqs q hq).1 (hqs q hq).2
   have rd0:=ou I _ _ _ rl vq (uY fun x hx=>by
    obtain ⟨q,hq,rfl⟩:=aU.mp hx;exact Am (hqs q hq).1)
   have rd:=RdL.keep k1 _ _ rd0;have pd:(qs.map (·.1)).Perm (ps.map (·.1)):=pq.map _;have hsq:=rZ pd hs;obtain ⟨_,hk,_⟩:=dt hsq;have lu:qs.length < 64:=by rw [pq.length_eq];exact h64
   have l3:(qs.map fun q=>vv q.2).length = (qs.map (·.1)).length:=by rw [aj,aj]
   have hlen:(eE (gB (qs.map (·.1))) (qs.map fun q=>vv q.2)).length = (qs.map fun q=>vv q.2).length:=by
    unfold eE;split
    . rfl
    . rw [aj,(fy _).length_eq,gL]
   have small:∀ i∈(ans (gB (qs.map (·.1))) (kas_sort (qs.map fun q=>vv q.2).length)).toList,i < (qs.map fun q=>vv q.2).length:=fun i hi=>by simpa using (fy _).mem_iff.mp hi
   have hv:∃ ys,Vals ys (eE (gB (qs.map (·.1))) (qs.map fun q=>vv q.2))/\aK X.K H F (dh (qs.map (·.1))) ys:=by
    unfold eE dh;by_cases h2:(qs.map fun q=>vv q.2).length < 2
    . rw [if_pos h2,if_pos (by lia)];exact ⟨_,vq,rl⟩
    . rw [if_neg h2,if_neg (by lia),<- l3];exact ⟨_,nM vq _ fun i hi=>by have:=small i hi;rw [aj] at this ⊢;exact this,nQ rl _ fun i hi=>by rw [<- l3];exact small i hi⟩
   obtain ⟨ys,vy,ry⟩:=hv
   rw [yw pd hs ht fun d hd=>by
    obtain ⟨q,hq,rfl⟩:=aU.mp hd;exact (eZ (hps q hq).1).1] at ry
   have hL:(h1.push (seqObj "list" (qs.map fun q=>vv q.2).toArray 0)).get? h1.objs.size = some (seqObj "list" (qs.map fun q=>vv q.2).toArray 0):=aE _ rfl;have kp':∀ {h':bK},(∀ b o,b≠h1.objs.size->(h1.push (seqObj "list" (qs.map fun q=>vv q.2).toArray 0)).get? b = some o->h'.get? b = some o)->∀ b o,h1.get? b = some o->h'.get? b = some o:=fun kp b o e=>kp b o (aJ (az e)) (ag _ e);refine ab (bO (bM ze ⟨_,hL,rfl⟩ xP ?_ (zh _)))
   refine jZ (s:={ s with heap:=h1.push (seqObj "list" (qs.map fun q=>vv q.2).toArray 0),drawn:=d,toks:=tk }) (lt:=gB (qs.map (·.1))) (κ:=if bH ((qs.map (·.1)).getD 0 .non) < 3 then oneType' else tuples' true) hL (by rw [aj];exact lu) hlen
    (fun h2 h' kp C c=>FV (s:={ s with heap:=h',drawn:=d,toks:=tk }) (RdL.keep (kp' kp) _ _ rd) hk h2 c) (fun h' kp i j hi hj C c=>Kf (A:=X.A) (s:={ s with heap:=h1,drawn:=d,toks:=tk }) hu (by show X.A.units+1+1<=X.A.units+2;lia) rd l3 hsq (kp' kp) i j hi hj C c) ?_
   . refine ⟨_,rfl,ak ⟨_,rfl,?_⟩⟩;have J:=I.call (h':=h1) (g':=s.gens) (d':=d) (t':=tk) (ch:=[]) (Un.kept k1) (I.hok.kept k1) I.bare (fun b z=>absurd z (by simp));obtain ⟨e,he⟩:=sortedHeap_at (out:=(eE (gB (qs.map (·.1))) (qs.map fun q=>vv q.2)).toArray) hL
     have old:∀ b o,h1.get? b = some o->(sortedHeap (h1.push (seqObj "list" (qs.map fun q=>vv q.2).toArray 0)) h1.objs.size (qs.map fun q=>vv q.2) (eE (gB (qs.map (·.1))) (qs.map fun q=>vv q.2)).toArray).get? b = some o:=fun b o e=>by
      have lb:=az e;rw [sortedHeap_old (aJ lb) (by rw [bC];exact bw lb)];exact ag _ e
     refine ⟨.ref h1.objs.size,upd H h1.objs.size (.lst ys),J.laid (t':=tk) old (aA _) ⟨?_,_,e,vy,he⟩,rfl,q _ _ (J.hok.fresh (aA _)) ry⟩;rw [ry.length,oj,aj,bR]
     lia
 . have:=pv.length_eq;rw [aj] at this;rw [bR]
   lia
end PP
end
section
namespace PP
open PySem L2 PyProof.Rows
variable [Tbs]
section
variable {K:PySem.W.Frag} {cx:Cl} {P:aR} {w:bf}
theorem Ok.enterX (h:Ok K G F σ H δ) (hp:H p = none) (φ:bK->Prop):Ok K (G.and p) (fun b=>F b\/b = p) σ (upd H p (.ext φ)) δ/\Step G F H (fun b=>F b\/b = p) (upd H p (.ext φ)):=h.enterO hp trivial
theorem Ok.pokeX {G:Gh} {H:Hp} {F:aw->Prop} {σ:L2.St} {δ:Loc} {p:aw} {φ:bK->Prop} (h:Ok K (G.and p) F σ H δ) (hg:G.free p) (hP:H p = some (.ext φ)) (ψ:bK->Prop):Ok K (G.and p) F σ (upd H p (.ext ψ)) δ:=h.pokeO hg hP trivial trivial
noncomputable def inF (cx:Cl) (tg:Tg) (ifs:Eo) (elt:E):D->Loc->Option (List D × Loc):=fun y δi=>do
 let δd <- eC δi tg y
 let (b,δe) <- evG cx ifs δd
 if b then do
  let (z,δf) <- evE cx elt δe
  return ([z],δf)
 else return ([],δe)
noncomputable def outF (cx:Cl) (k:Nat) (tg1:Tg) (tg2:Tg) (src2:It) (ifs:Eo) (elt:E):D->Loc->Option (List D × Loc):=fun x δ0=>do
 let δa <- eC (δ0++aC k .no) tg1 x
 let (es,δb) <- evI cx src2 δa
 let (zs,δc) <- gI (inF cx tg2 ifs elt) es δb
 return (zs,δc.take δ0.length)
theorem zy (ev:evE cx (.sset k tg1 src1 tg2 src2 ifs elt) δ = some (d,δ')) :
 ∃ ds δ1 ys xs,evI cx src1 δ = some (ds,δ1)/\gI (outF cx k tg1 tg2 src2 ifs elt) ds δ1 = some (ys,δ')/\fS ys = some xs/\xs.length < 4000/\(ia xs).length < 64/\d = .lst (dh ((ia xs).map .str)):=by
 simp only [evE,ah,ae] at ev;obtain ⟨⟨ds,δ1⟩,ea,⟨ys,δ2⟩,eb,ev⟩:=ev;dsimp only at ev;split at ev
 . rename_i xs hx;split at ev
   . rename_i hh;cases ev;exact ⟨ds,δ1,ys,xs,ea,eb,hx,hh.1,hh.2,rfl⟩
   . cases ev
 . cases ev
theorem Jv (h:inF cx tg ifs elt x δ0 = some (o,δ1)):∃ δ2 b δ3,eC δ0 tg x = some δ2/\evG cx ifs δ2 = some (b,δ3) /\
 ((b = true/\∃ y,evE cx elt δ3 = some (y,δ1)/\o = [y])\/(b = false/\o = []/\δ1 = δ3)):=by
 unfold inF at h;simp only [ah,ae] at h;obtain ⟨δ2,e1,⟨b,δ3⟩,e2,h⟩:=h;refine ⟨δ2,b,δ3,e1,e2,?_⟩
 cases b with
 | true =>
   simp only [if_true,ae] at h;obtain ⟨⟨y,δ4⟩,e3,h⟩:=h;cases h
   exact .inl ⟨rfl,y,e3,rfl⟩
 | false =>
   simp only [aO,if_false] at h;cases h;exact .inr ⟨rfl,rfl,rfl⟩
theorem Ff (h:outF cx k tg1 tg2 src2 ifs elt x δ0 = some (o,δ1)):∃ δa es δb δc,eC (δ0++aC k .no) tg1 x = some δa/\evI cx src2 δa = some (es,δb)/\gI (inF cx tg2 ifs elt) es δb = some (o,δc)/\δ1 = δc.take δ0.length:=by
 unfold outF at h;simp only [ah,ae] at h;obtain ⟨δa,e1,⟨es,δb⟩,e2,⟨zs,δc⟩,e3,h⟩:=h;cases h;exact ⟨δa,es,δb,δc,e1,e2,e3,rfl⟩
theorem rJ {f:D->Loc->Option (List D × Loc)} {x:D} {xs ys:List D} {δ δ':Loc} (h:gI f (x::xs) δ = some (ys,δ')):∃ o δ1 zs,f x δ = some (o,δ1)/\gI f xs δ1 = some (zs,δ')/\ys = o++zs:=by
 unfold gI at h;simp only [ah,ae] at h;obtain ⟨⟨o,δ1⟩,e1,⟨zs,δ2⟩,e2,h⟩:=h;cases h;exact ⟨o,δ1,zs,e1,e2,rfl⟩
theorem qH:∀ {a b:List D} {xs:List Str},fS (a++b) = some xs->∃ xa xb,fS a = some xa/\fS b = some xb/\xs = xa++xb
 | [],b,xs,h=>⟨[],xs,rfl,h,rfl⟩
 | d::a,b,xs,h=>by
   cases d<;>first | (simp [fS] at h;done) | skip
   rename_i x;rw [fR] at h;simp only [fS,aG] at h;obtain ⟨ys,h1,rfl⟩:=h;obtain ⟨xa,xb,e1,e2,rfl⟩:=qH h1;exact ⟨x::xa,xb,by simp [fS,e1],e2,rfl⟩
theorem xJ (ts:List Str) (x:Str):(ko ts x).length<=ts.length+1:=by
 unfold ko;split
 . lia
 . simp
theorem Gi {G:Gh} {F1:aw->Prop} {H1:Hp} {σ:L2.St} {J:L2.It} {es ys:List D} {δ1 δ2:Loc} {tg:Tg} {ifs:Eo} {elt:E} {p:aw} {ts xs:List Str} {Q:L2.St->Hp->Prop} (n:(!bS elt) = true) (hg:G.free p)
 (ok1:Ok K (G.and p) F1 σ H1 δ1) (wk:Wk K G F1 H1 J es) (hD:H1 p = some (SH P w p ts)) (ev:gI (inF cx tg ifs elt) es δ1 = some (ys,δ2)) (hx:fS ys = some xs) (hr:ts.length+xs.length < 4090)
 (q:∀ σ' H2 F2,σ'.length = σ.length->(∀ m,md m tg = true->σ'.take m = σ.take m)->Ok K (G.and p) F2 σ' H2 δ2->H2 p = some (SH P w p (xs.foldl ko ts))->Step G F1 H1 F2 H2->((npO ifs && np elt) = true->∀ H0,H0 p = none->Sim H0 H1->Sim H0 H2)->Q σ' H2) :
 tLp J (gTg K tg) (tG K cx ifs) (yv P w p (tE K cx elt)) σ H1 Q:=by
 have hFs:∀ b,G.R b->(G.and p).R b:=fun b z=>.inl z
 refine uN (P:=fun r F' σc Hc=>∃ δi zs xr ti,σc.length = σ.length/\(∀ m,md m tg = true->σc.take m = σ.take m)/\Ok K (G.and p) F' σc Hc δi/\gI (inF cx tg ifs elt) r δi = some (zs,δ2)/\fS zs = some xr/\Hc p = some (SH P w p ti)/\xr.foldl ko ti = xs.foldl ko ts/\ti.length+xr.length < 4090/\Step G F1 H1 F' Hc /\
  ((npO ifs && np elt) = true->∀ H0,H0 p = none->Sim H0 H1->Sim H0 Hc)) wk (fun r F σ H z=>by obtain ⟨_,_,_,_,_,_,ok,_,_,_,_,_,st,_⟩:=z;exact ⟨st,ok.fd⟩) ⟨δ1,ys,xs,ts,rfl,fun _ _=>rfl,ok1,ev,hx,hD,rfl,hr,Step.refl,fun _ _ _ z=>z⟩ ?_ ?_
 . rintro d r F' σc H3 x N ⟨δi,zs,xr,ti,hl,htk,ok,el,exr,eD,ef,hr',st,sm⟩ rx hN;have hF:F' p:=ok.rf p (.inr rfl);obtain ⟨o,δ5,zs',eo,el',rfl⟩:=rJ el;obtain ⟨δ6,b,δ7,es6,eg,alt⟩:=Jv eo;refine lE ok rx es6 fun σ2 ok6 htake=>?_
   have l2:σ2.length = σ.length:=by
    have a1:=ok.len;have a2:=ok6.len;have e1:=oo es6
    lia
   have t2:∀ m,md m tg = true->σ2.take m = σ.take m:=fun m hm=>(htake m hm).trans (htk m hm);refine ⟨G.and p,F',δ6,b,δ7,ok6,eg,fun H7 F7 st7 sm7 ok7=>?_⟩;have keepD:∀ {F8:aw->Prop} {H8:Hp},Step (G.and p) F' H3 F8 H8->H8 p = some (SH P w p ti):=fun s8=>(s8.res p _ (.inr rfl) hF eD).2;rcases alt with ⟨rfl,y,ee,rfl⟩ | ⟨rfl,rfl,rfl⟩
   . refine ka ?_;refine ⟨G.and p,F7,δ7,y,δ5,ok7,ee,fun u H8 F8 st8 sm8 ok8 r8=>?_⟩;have s78:=st7.trans st8;have eD8:=keepD s78;have ry:=eR n r8;obtain ⟨xa,xb,ea,eb,rfl⟩:=qH exr
     have hy':∃ x0,y = .str x0/\xa = [x0]:=by
      cases y<;>first | (simp [fS] at ea;done) | skip
      simp [fS] at ea;exact ⟨_,rfl,ea.symm⟩
     obtain ⟨x0,rfl,rfl⟩:=hy';unfold Rel at ry;have hF8:F8 p:=ok8.rf p (.inr rfl);have hal:=xJ ti x0;rw [ar,bP] at hr';refine ⟨x0,ti,ry,eD8,by show ti.length+1 < 4096;lia,hN F8 _ _ ⟨δ5,zs',xb,ko ti x0,l2,t2,ok8.pokeX hg eD8 _,el',eb,bN,?_,by lia,?_,fun z H0 h0 s0=>?_⟩⟩
     . rw [<- ef];rfl
     . have s1:=st.trans (s78.sub hFs);have hF1:F1 p:=ok1.rf p (.inr rfl);refine ⟨fun b o t e nf=>?_,s1.grow,fun b o r f e=>?_,fun b ps e=>?_⟩
       . rw [bA (fun w:b = p=>nf (by rw [w];exact hF1))];exact s1.keep b o t e nf
       . obtain ⟨a1,a2⟩:=s1.res b o r f e;refine ⟨a1,?_⟩;rw [bA (fun w:b = p=>hg.2 (by rw [<- w];exact r))];exact a2
       . rw [bA (fun w:b = p=>by rw [w,hD] at e;cases e)];exact s1.tb b ps e
     . have z':=z;rw [aa] at z';exact (((sm z H0 h0 s0).trans (sm7 z'.1)).trans (sm8 z'.2)).new h0
   . refine kU ?_;refine hN F7 _ _ ⟨_,zs',xr,ti,l2,t2,ok7,el',exr,keepD st7,ef,hr',st.trans (st7.sub hFs),fun z H0 h0 s0=>?_⟩;have z':=z;rw [aa] at z';exact (sm z H0 h0 s0).trans (sm7 z'.1)
 . rintro F' σc Hc ⟨δi,zs,xr,ti,hl,htk,ok,el,exr,eD,ef,hr',st,sm⟩;cases el;have:xr = []:=by simpa [fS] using exr.symm
   subst this;exact q _ Hc F' hl htk ok (by rw [<- ef];exact eD) st sm
end
end PP
end
section
namespace PP
open PySem L2 PyProof.Rows
noncomputable def fzO (b:aw) (o:Obj):HO:=.frz o (.ext fun h=>h.get? b = some o)
noncomputable def kC (H:Hp) (cs:List (aw × Obj)):Hp:=fun b=>match cs.lookup b with
 | some o=>some (fzO b o)
 | none=>H b
noncomputable def ig (H:Hp) (cs:List (aw × Obj)):Hp:=fun b=>match cs.lookup b with
 | some _=>none
 | none=>H b
section
variable {P:aR} {w:bf} {H H':Hp} {h h':bK} {cs:List (aw × Obj)}
theorem nL (e:cs.lookup b = some o):kC H cs b = some (fzO b o):=by unfold kC;rw [e]
theorem dk (e:cs.lookup b = none):kC H cs b = H b:=by unfold kC;rw [e]
theorem lL (e:cs.lookup b = some o):ig H cs b = none:=by unfold ig;rw [e]
theorem cK (e:cs.lookup b = none):ig H cs b = H b:=by unfold ig;rw [e]
noncomputable def Un0 (H:Hp) (h:bK) (cs:List (aw × Obj)):Prop:=∀ b o,cs.lookup b = some o->H b = none/\h.get? b = some o
theorem AQ (c:Un0 H h cs) (e:H b = some u):kC H cs b = some u:=by
 cases q:cs.lookup b with
 | none=>rw [dk q];exact e
 | some o=>rw [(c b o q).1] at e;cases e
theorem fe.mono:∀ {u:HO},fe P w H h a u->(∀ b x,(∀ o,x≠fzO b o)->H b = some x->H' b = some x)->fe P w H' h a u
 | .lst _,x,_=>x
 | .tup _,x,_=>x
 | .dK _,x,_=>x
 | .dT kvs,x,k=>by
   obtain ⟨x1,x2,xs,x3,x4⟩:=x
   refine ⟨x1,x2,xs,L2.Paired.mapP x3 fun p q z=>⟨z.1,k _ _ (fun o=>by unfold fzO;intro z;cases z) z.2.1,z.2.2⟩,x4⟩
 | .set _ _,x,_=>x
 | .ins _ _ _,x,k=>by
   obtain ⟨x1,x2⟩:=x
   exact ⟨k _ _ (fun o=>by unfold fzO;intro z;cases z) x1,x2⟩
 | .own _,x,_=>x
 | .xd _,x,_=>x
 | .met _ _,x,_=>x
 | .rng _ _,x,_=>x
 | .frz _ u,x,k=>⟨x.1,fe.mono x.2 k⟩
 | .tbl _,x,_=>x
 | .ext _,x,_=>x
theorem HOk.add (x:HOk P w H h) (c:Un0 H h cs):HOk P w (kC H cs) h:=fun a u e=>by
 cases q:cs.lookup a with
 | none =>
   rw [dk q] at e
   exact fe.mono (x a u e) fun b y _ z=>AQ c z
 | some o =>
   rw [nL q] at e;cases e;have g:=(c a o q).2;exact ⟨g,g,⟨o,g⟩,fun h1 h2 e1 k=>k _ e1⟩
noncomputable def Fz0 (H:Hp) (cs:List (aw × Obj)):Prop:=∀ b o,cs.lookup b = some o->H b = some (fzO b o)
theorem HOk.del (x:HOk P w H h) (c:Fz0 H cs):HOk P w (ig H cs) h:=fun a u e=>by
 cases q:cs.lookup a with
 | some o=>rw [lL q] at e;cases e
 | none =>
   rw [cK q] at e;refine fe.mono (x a u e) fun b y n z=>?_
   cases r:cs.lookup b with
   | none=>rw [cK r];exact z
   | some o =>
     rw [c b o r] at z;cases z;exact absurd rfl (n o)
theorem Un.del (u:Un fs ex (kC H cs) H' h h') (x:HOk P w H' h') (c:Un0 H h cs) (nf:∀ b o,cs.lookup b = some o->b∉fs/\b∉ex):Un fs ex H (ig H' cs) h h'/\Fz0 H' cs:=by
 have fz:Fz0 H' cs:=fun b o e=>u.frzs b o _ (nL e);refine ⟨⟨fun b o e n hb hx=>?_,fun b o e n hb hx=>?_,fun b o e n hx=>?_,u.there,fun b xs e=>?_,fun b o y e=>?_,fun b ps e=>?_⟩,fz⟩
 . cases q:cs.lookup b with
   | none=>exact u.keep b o e (by rw [dk q];exact n) hb hx
   | some o' =>
     have g:=(c b o' q).2;rw [e] at g;cases g;exact (x b _ (fz b o q)).1
 . cases q:cs.lookup b with
   | none=>exact u.slot b o e (by rw [dk q];exact n) hb hx
   | some o'=>exact absurd hb (nf b o' q).1
 . cases q:cs.lookup b with
   | none=>rw [cK q];exact u.free b o e (by rw [dk q];exact n) hx
   | some o'=>exact lL q
 . cases q:cs.lookup b with
   | none=>rw [cK q];exact u.tups b xs (by rw [dk q];exact e)
   | some o'=>rw [(c b o' q).1] at e;cases e
 . cases q:cs.lookup b with
   | none=>rw [cK q];exact u.frzs b o y (by rw [dk q];exact e)
   | some o'=>rw [(c b o' q).1] at e;cases e
 . cases q:cs.lookup b with
   | none=>rw [cK q];exact u.tbls b ps (by rw [dk q];exact e)
   | some o'=>rw [(c b o' q).1] at e;cases e
theorem vw.add {K:PySem.W.Frag} {mg:Str->Option af} {base:bK} {A:ba} {outer:List Env} {s:ai} (e:vw P w K mg base A outer s H) (c:Un0 H s.heap cs) (nb:∀ b o,cs.lookup b = some o->base.get? b = none/\b∉frs outer):vw P w K mg base A outer s (kC H cs) :=
 ⟨e.frames,e.mod,fun b o z=>⟨(e.bs b o z).1,by
   cases q:cs.lookup b with
   | none=>rw [dk q];exact (e.bs b o z).2
   | some o'=>rw [(nb b o' q).1] at z;cases z⟩,e.bsz,e.funs,fun b hb=>by
   cases q:cs.lookup b with
   | none=>rw [dk q];exact e.frf b hb
   | some o'=>exact absurd hb (nb b o' q).2,HOk.add e.hok c,e.bare⟩
end
theorem Inv.callF (I:Inv X pins σ H s) (c:Un0 H s.heap cs) (nf:∀ b o,cs.lookup b = some o->b∉frs X.stack)
 (h:CE X.stack X.prog X.w (kC H cs) s Q u s'):∃ v H',Inv X pins σ (ig H' cs) s'/\RelV v u/\Fz0 H' cs/\Q v H':=by
 obtain ⟨v,H',os,bare,un,hok,r,qq⟩:=h;obtain ⟨hh,g,d,t,os'⟩:=s';obtain rfl:os' = s.os:=os;obtain ⟨un',fz⟩:=Un.del un hok c fun b o e=>⟨nf b o e,by simp⟩;exact ⟨v,H',I.call (h':=hh) (g':=g) (d':=d) (t':=t) (ch:=[]) un' (HOk.del hok fz) bare (fun b z=>absurd z (by simp)),r,fz,qq⟩
end PP
end
section
namespace PP
open PySem L2 PyProof.Rows
variable [Tbs]
section
variable {K:PySem.W.Frag} {H:Hp} {F:aw->Prop}
end
section
variable {X:Cx} {cx:Cl}
end
section
variable {cx:Cl} {k:Nat}
theorem gU:∀ {es:Es},ie es = true->oy es = true
 | .nil,_=>rfl
 | .cons e es,h=>by
   have h':(!bS e && ie es) = true:=h;rw [aa] at h';show ((!bS e || npS es) && oy es) = true;rw [h'.1,gU h'.2];rfl
theorem jz:∀ {es:Es} {ys:List aI},gH c es ys = true->(backTo pos (starEach ys env)).any (·.1) = false
 | .nil,ys,h=>by obtain ⟨rfl,_⟩:=fL h;rfl
 | .cons e es,ys,h=>by
   obtain ⟨_,_,rfl,hh⟩:=eJ h;rw [aa] at hh;rw [cG (cb hh.1)];show (false || (backTo pos (starEach _ env)).any (·.1)) = false;rw [jz hh.2];rfl
theorem mP (C:Cok X c cx k) (h:jT c sc = true):oP X sc:=by
 unfold jT at h;rw [aa,bx] at h;obtain ⟨h1,h2⟩:=h
 have q:∀ p∈sc.names,p.2≠.cell/\(p.2 = .local->sc.names.lookup p.1 = some .local)/\(p.2 = .free->c.sc.names.lookup p.1 = some .cell\/c.sc.names.lookup p.1 = some .free):=fun p hp=>by
  have z:=h2 p hp;rw [aa,aa] at z;obtain ⟨⟨a,b⟩,d⟩:=z;refine ⟨of_decide_eq_true a,fun e=>?_,fun e=>?_⟩
  . rw [cD] at b;rcases b with b | b
    . simp [e] at b
    . exact of_decide_eq_true b
  . rw [cD] at d;rcases d with d | d
    . simp [e] at d
    . split at d
      . exact .inl ‹_›
      . exact .inr ‹_›
      . cases d
 exact ⟨of_decide_eq_true h1,fun y hy=>(q y hy).1,fun y hy e=>(q y hy).2.1 e,fun x hx=>C.kc x ((q _ hx).2.2 rfl)⟩
theorem dZ (C:Cok X c cx k) (h:jT c sc = true) (hn:Nc.Nodup) (cl:List (Str × aw)) (Ca:aw) (s:ai) (H:Hp) (fp:List aw):Cok (cxC X sc cl Ca Nc s H fp) ⟨Nc,sc,c.fns,c.gn⟩ cx k:=by
 have S:=mP C h;have kd:∀ x,(cxC X sc cl Ca Nc s H fp).env.kindOf x = (sc.names.lookup x).map fun k=>if (k == bW && X.env.scope.kind == .function && X.env.kindOf x == some .cell) then lT else k:=fun x=>oI x
 refine ⟨rfl,hn,fun x hx=>?_,fun x hx=>?_,fun x hx=>?_,fun x hx=>?_,C.calm,rfl,C.room,C.fns,C.fnF,C.fnO,C.lam,C.blt,C.glob,C.gsome,C.gds,C.pos⟩
 . have e:=kd x;show (cxC X sc cl Ca Nc s H fp).env.kindOf x = some .local\/(cxC X sc cl Ca Nc s H fp).env.kindOf x = some .cell\/(cxC X sc cl Ca Nc s H fp).env.kindOf x = some .free;rw [e];rcases hx with hx | hx | hx
   . rw [hx];exact .inl rfl
   . exact absurd rfl (S.nocell _ (PySem.mem_of_lookup hx))
   . rw [hx];simp only [dg];split
     . exact .inr (.inl rfl)
     . exact .inr (.inr rfl)
 . show (cxC X sc cl Ca Nc s H fp).env.kindOf x = some .globalImplicit;rw [kd x];have hx:sc.names.lookup x = some .globalImplicit:=hx;rw [hx];rfl
 . have:sc.names.lookup x = some .local:=by
    rcases hx with hx | hx
    . exact hx
    . exact absurd rfl (S.nocell _ (PySem.mem_of_lookup hx))
   have e:(cxC X sc cl Ca Nc s H fp).env.kindOf x = some .local:=by rw [kd x,this];rfl
   exact ⟨.inl e,.inr e⟩
 . rw [kd x];have hx:sc.names.lookup x = some .cell\/sc.names.lookup x = some .free:=hx;rcases hx with hx | hx
   . exact absurd rfl (S.nocell _ (PySem.mem_of_lookup hx))
   . rw [hx];simp only [dg];split
     . exact .inl rfl
     . exact .inr rfl
theorem jB (h:namesOk c sc Nc = true):Nc.Nodup/\∀ i x,i < c.N.length->Nc[i]? = some x->Vis sc x->c.N[i]? = some x/\sc.names.lookup x = some .free:=by
 unfold namesOk at h;rw [aa,bx] at h;refine ⟨of_decide_eq_true h.1,fun i x hi e v=>?_⟩;have z:=h.2 i (by simpa using hi);rw [e] at z;dsimp only at z;rw [cD,aa] at z
 have vb:Bx sc x = true:=by
  unfold Bx;rcases v with v | v | v<;>rw [v]
 rcases z with z | ⟨z1,z2⟩
 . rw [vb] at z;cases z
 . exact ⟨of_decide_eq_true z1,of_decide_eq_true z2⟩
theorem xy {X:Cx} {c:Ck} {Nc:List Str} {kk:Nat} {tg:Tg} {src:It} {ifs:Eo} {elt:E} {pins:List (aw × Obj)} {s:ai} {σ:L2.St} {H:Hp} {Q:VK} (C:Cok X c cx k) (I:Inv X pins σ H s) (n:(!bS elt) = true) (hk:Nc.length = c.N.length+kk) (hge:md c.N.length tg = true)
 {G:Gh} {F:aw->Prop} {δ δ':Loc} {d:D} (ok:Ok X.K G F σ H δ) (ev:evE cx (.comp kk tg src ifs elt) δ = some (d,δ'))
 (q:∀ p ys xs H1 F1 H2 F2,d = .lst ys->Step G F H F1 H1->Step G F1 H1 F2 H2->H1 p = none->G.free p->Ok X.K (G.and p) F2 σ H2 δ'->H2 p = some (.lst xs)->aK X.K H2 F2 ys xs->(np (.comp kk tg src ifs elt) = true->Sim H H2)->Q (.ref p) H2) :
 tLC (Nc.length - X.N.length) (tI X.K cx src) (gTg X.K tg) (tG X.K cx ifs) (tE X.K cx elt) σ H Q:=by
 obtain ⟨ds,δ1,ys,ei,ec,hz,rfl⟩:=JC ev;have ek:Nc.length - X.N.length = kk:=by rw [C.hN,hk];lia
 rw [ek];refine ⟨G,F,δ,ds,δ1,ok,ei,fun J H1 F1 st1 sm1 ok1 wk=>fun p hp=>?_⟩;have hg:=ok1.free hp;refine yS n (by rw [I.len,C.hN];exact hge) ok1 (wk _) hp ec hz fun σ' H2 F2 xs ok2 eD rl st2 sm2=>?_;refine q p ys xs H1 F1 H2 F2 rfl st1 st2 hp hg ok2 eD rl fun z=>?_;have z':(npI src && npO ifs && np elt) = true:=z;rw [aa,aa] at z';exact (sm1 z'.1.1).trans (sm2 (by rw [z'.1.2,z'.2];rfl))
theorem GH {X:Cx} {c:Ck} {Nc:List Str} {kk:Nat} {tg:Tg} {src:It} {ifs:Eo} {elt:E} {pins:List (aw × Obj)} {s:ai} {σ:L2.St} {H:Hp} {Q:VK} (C:Cok X c cx k) (I:Inv X pins σ H s) (n:(!bS elt) = true) (hk:Nc.length = c.N.length+kk) (hge:md c.N.length tg = true)
 (h:tE X.K cx (.comp kk tg src ifs elt) σ H Q):tLC (Nc.length - X.N.length) (tI X.K cx src) (gTg X.K tg) (tG X.K cx ifs) (tE X.K cx elt) σ H Q:=by
 obtain ⟨G,F,δ,d,δ',ok,ev,post⟩:=h;refine xy C I n hk hge ok ev fun p ys xs H1 F1 H2 F2 e st1 st2 hp hg ok2 eD rl sm=>?_;subst e
 have st':Step G F1 H1 (fun b=>F2 b/\b≠p) H2:=⟨st2.keep,fun b z=>st2.grow b z.1,fun b o r f e=>by
  obtain ⟨a1,a2⟩:=st2.res b o r f e;exact ⟨⟨a1,fun w=>by rw [w,hp] at e;cases e⟩,a2⟩,st2.tb⟩
 refine post (.ref p) H2 _ (st1.trans st') sm (ok2.leave hg) (gu ?_);unfold Rel;exact ⟨p,xs,rfl,.inl ⟨.inl eD,fun z=>z.2 rfl⟩,aK.less ok2.fd (fun b z=>z.1) rl⟩
theorem Ej (C:Cok X c cx k) (n:(!bS elt) = true) (hk:Nc.length = c.N.length+kk) (hge:md c.N.length tg = true) (hs:jT c sc = true) (hn:namesOk c sc Nc = true)
 (htg:∀ cl Ca s H fp,PG (cxC X sc cl Ca Nc s H fp) t (gTg X.K tg)) (hI:PI X t it (tI X.K cx src)) (hG:∀ cl Ca s H fp,PTs (cxC X sc cl Ca Nc s H fp) il (tG X.K cx ifs)) (hE:∀ cl Ca s H fp,PE (cxC X sc cl Ca Nc s H fp) ex (tE X.K cx elt))
 (hset:∀ v,foldedSetIterable it X.env v = pure v):PE X (.ListComp ex [⟨t,it,il,0⟩] sc pos) (tE X.K cx (.comp kk tg src ifs elt)):=by
 obtain ⟨nd,hvis⟩:=jB hn;intro pins s σ H Q I h;refine EZ (Nc:=Nc) C.xe C.calm (mP C hs) (fun i x hi=>by rw [C.hN] at hi ⊢;exact hvis i x hi) (by rw [C.hN,hk];lia) hI htg hG hE hset pins s σ H Q I ?_;exact GH C I n hk hge h
theorem call_of {X:Cx} {c:Ck} {f:Nat} {es:Es} {n:Str} {p pos:Pos} {xs:List aI} (C:Cok X c cx k) (hA:PA X xs (tEs X.K cx es)) (h:(match c.fns[f]? with
 | some (m,ps)=>decide (m = n) && eU c n && decide (ps.length = xm es) && gH c es xs && ie es && !xs.isEmpty
 | none=>false) = true):PE X (.Call (.Name n p) xs [] pos) (tE X.K cx (.call f es)):=by
 split at h
 . rename_i m ps ef;simp only [aa] at h;obtain ⟨⟨⟨⟨⟨h1,h2⟩,h3⟩,h4⟩,h5⟩,h6⟩:=h;have e:=of_decide_eq_true h1;subst e;obtain ⟨a,fd,hm,hk,hb,fn⟩:=C.fns f _ _ ef;obtain ⟨g1,g2,g3⟩:=C.global h2
   cases xs with
   | nil=>simp at h6
   | cons y ys =>
     obtain ⟨_,_,_,a1,a2⟩:=eO h4;exact Ek h5 fn C.room g1 hm hk hb hA g2 (cG (cb a1) _ _) (jz a2)
 . cases h
theorem Nj (C:Cok X c cx k) (hg:eU c (tL f) = true) (ht:tyName f = none) (hA:PA X (y::ys) (tEs X.K cx es)) (h:gH c es (y::ys) = true):PE X (.Call (.Name (tL f) p) (y::ys) [] pos) (tE X.K cx (.blt f es)):=by
 obtain ⟨g1,g2,g3⟩:=C.global hg;obtain ⟨e,es',rfl,h1,h2⟩:=eO h;have he:=cG (cb h1) ys X.env;have hpl:=jz (env:=X.env) (pos:=pos) h2
 cases f with
 | len=>exact jd Jl rfl (iQ Nb g1 (C.blt _ (by decide +kernel)) rfl hA g3 g2 he hpl)
 | max=>exact jd maxD rfl (iQ (MZ C.calm) g1 (C.blt _ (by decide +kernel)) rfl hA g3 g2 he hpl)
 | toInt=>exact jd qB rfl (iK Nd g1 (C.blt _ (by decide +kernel)) rfl hA g3 g2 he hpl)
 | toStr=>exact jd ug rfl (iK MY g1 (C.blt _ (by decide +kernel)) rfl hA g3 g2 he hpl)
 | toTup=>exact jd uf rfl (iK MX g1 (C.blt _ (by decide +kernel)) rfl hA g3 g2 he hpl)
 | toLst=>exact jd oh rfl (iK Na g1 (C.blt _ (by decide +kernel)) rfl hA g3 g2 he hpl)
 | sorted=>exact jd pY rfl (iQ (Cw C.units) g1 (C.blt _ (by decide +kernel)) rfl hA g3 g2 he hpl)
 | any=>exact jd JF rfl (iQ (Nf C.calm) g1 (C.blt _ (by decide +kernel)) rfl hA g3 g2 he hpl)
 | _=>cases ht
end
section
variable {X:Cx} {cx:Cl} {k:Nat}
theorem FnV.at (I:Inv X pins σ H s) (h:FnV H n cs a):PySem.W.FnAt a s.heap:=by
 obtain ⟨L,pm,ctv,c',oc,vs,tk,cells,h1,h2,_⟩:=h;exact ⟨_,_,_,_,(I.hok a _ h2).1⟩
theorem BK (C:Cok X c cx k) (hx:fk c i x = true) (n:ie es = true) (hA:PA X (y::ys) (tEs X.K cx es)) (he:starEach (y::ys) X.env = (false,eval y X.env)::starEach ys X.env) (hpl:(backTo pos (starEach ys X.env)).any (·.1) = false) :
 PE X (.Call (.Name x p) (y::ys) [] pos) (tE X.K cx (.callv i es)):=by
 obtain ⟨n1,n2,n3,n4⟩:=C.name hx;intro pins s σ H Q I h;obtain ⟨G,F,δ,d,δ',ok,ev,post⟩:=h;simp only [evE,ah,ae] at ev;obtain ⟨⟨ds,δ1⟩,ea,ev⟩:=ev
 cases q:δ[i]? with
 | none=>rw [q] at ev;cases ev
 | some sl =>
   rw [q] at ev
   cases sl with
   | no=>cases ev
   | val _=>cases ev
   | own _=>cases ev
   | fnc m cs =>
     dsimp only at ev;split at ev
     . rename_i hl;rw [aG] at ev;obtain ⟨r,er,e⟩:=ev;cases e
       have er':cx.call m (ds++cs) = some d/\lf d = true:=by
        cases z:cx.call m (ds++cs) with
        | none=>rw [z] at er;cases er
        | some r =>
          rw [z] at er;unfold lfO at er;split at er
          . split at er
            . rename_i e2 h2;cases er;cases e2;exact ⟨rfl,h2⟩
            . cases er
          . cases er
       obtain ⟨a,es',fv⟩:=ok.sl i _ q;refine gR (thn (jV n1 n2 n3 n4 pins s σ H (fun v H1=>v = .ref a/\H1 = H) I ⟨.ref a,es',rfl,rfl⟩) fun u s1 ⟨v,H1,I1,rv,e1,e2⟩=>?_);subst e1;subst e2;obtain rfl:u = cT a:=rv;refine PySem.W.callWith_F (fv.at I1) (thn (hA pos pins s1 σ H1 (fun vs H2=>∃ F2,Step G F H1 F2 H2/\(npS es = true->Sim H1 H2)/\Ok X.K G F2 σ H2 δ'/\aK X.K H2 F2 ds vs) I1 ⟨G,F,δ,ds,δ',ok,ea,fun vs H2 F2 st sm ok2 r2=>⟨F2,st,sm,ok2,r2.rl n⟩⟩) fun us s2 ⟨vs,H2,I2,rvs,F2,st,sm,ok2,rl⟩=>?_) he hpl;have fv2:FnV H2 m cs a:=fv.keep (qi ok.fd st.keep);refine ⟨fv2.at I2,?_⟩;refine zc (iu (C.lam m cs H2 a fv2 X.A X.stack s2 H2 a us vs cs Q C.room I2.env0 rvs fv2 ⟨F2,ds,d,ok2.fd,ok2.tf,ok2.tabs,rl,hl,er'.1,er'.2,fun v H' s3 t3 r3=>?_⟩) fun r s' hq=>?_)
       . exact post v H' F2 (st.trans (ok2.call s3 t3).2) (fun z=>(sm z).trans s3) (ok2.call s3 t3).1 (gu r3)
       . cases r with
         | error e=>exact (Fc pins σ H2 s2 e s' I2 hq)
         | ok fl =>
           cases fl with
           | ret u=>exact I2.after hq
           | next=>exact cI hq
           | brk=>exact cI hq
           | cont=>exact cI hq
     . cases ev
noncomputable def yu (K:PySem.W.Frag) (cx:Cl) (es:Es) (tz:TE):TA:=fun σ H Q=>∃ G F δ ds δ',Ok K G F σ H δ/\hZ cx es δ = some (ds,δ') /\
 ∀ vs H' F',Step G F H F' H'->(npS es = true->Sim H H')->Ok K G F' σ H' δ'->nO K H' F' es ds vs->tz σ H' fun v H2=>Q (vs++[v]) H2
theorem Eh (hz:PE X z tz) (hs:starEach [z] X.env = (false,eval z X.env)::starEach [] X.env):PA X [z] (yu X.K cx .nil tz):=by
 refine fun pos pins s σ H Q I h=>iB hz mi hs pos pins s σ H Q I ?_;obtain ⟨G,F,δ,ds,δ',ok,ev,post⟩:=h;simp only [hZ] at ev;cases ev;exact post [] H F Step.refl (fun _=>Sim.refl H) ok ⟨rfl,rfl⟩
theorem BJ (pc:(!bS a || npS es) = true) (ha:PE X y (tE X.K cx a)) (hr:PA X (ys++[z]) (yu X.K cx es tz)) (hs:starEach (y::(ys++[z])) X.env = (false,eval y X.env)::starEach (ys++[z]) X.env):PA X (y::ys++[z]) (yu X.K cx (.cons a es) tz):=by
 refine fun pos pins s σ H Q I h=>iB ha hr hs pos pins s σ H Q I ?_;obtain ⟨G,F,δ,ds,δ',ok,ev,post⟩:=h;simp only [hZ,ah,ae] at ev;obtain ⟨⟨x,δ1⟩,ea,⟨ds',δ2⟩,eb,e⟩:=ev;cases e;refine ⟨G,F,δ,x,δ1,ok,ea,fun v H1 F1 st1 sm1 ok1 r1=>⟨G,F1,δ1,ds',δ2,ok1,eb,fun vs H2 F2 st2 sm2 ok2 r2=>?_⟩⟩;refine post (v::vs) H2 F2 (st1.trans st2) (fun z=>?_) ok2 ⟨x,ds',v,vs,rfl,rfl,RelM.step ok1.fd st2 (fun z=>sm2 (by rw [z] at pc;simpa using pc)) r1,r2⟩;have z':(np a && npS es) = true:=z;rw [aa] at z';exact (sm1 z'.1).trans (sm2 z'.2)
theorem oi (hz:starEach [z] env = (false,eval z env)::starEach [] env):∀ {es:Es} {ys:List aI},gH c es ys = true->(backTo pos (starEach (ys++[z]) env)).any (·.1) = false
 | .nil,ys,h=>by
   obtain ⟨rfl,_⟩:=fL h
   rw [cC,hz];rfl
 | .cons e es,ys,h=>by
   obtain ⟨_,_,rfl,hh⟩:=eJ h;rw [aa] at hh;rw [fR,cG (cb hh.1)];show (false || (backTo pos (starEach _ env)).any (·.1)) = false;rw [oi hz hh.2];rfl
theorem BL (C:Cok X c cx k) (n:ie es = true) (hx:fk c i g = true) (fn:lP X.prog X.w X.K X.mg X.base CX0 k a fd ps (BF X.K (cx.call f))) (hg:Gl X x)
 (hm:X.mg x = some (.ref a)) (hk:PySem.W.keepIn X.K (.ref a) = true) (hb:Binds X.K fd ps []) (hA:PA X (y::(ys++[.Name g gp])) (yu X.K cx es (Lb i))) (hd:(x == ("__debug__":Str)) = false) (he:starEach (y::(ys++[.Name g gp])) X.env = (false,eval y X.env)::starEach (ys++[.Name g gp]) X.env) (hpl:(backTo pos (starEach (ys++[.Name g gp]) X.env)).any (·.1) = false) :
 PE X (.Call (.Name x p) (y::(ys++[.Name g gp])) [] pos) (tE X.K cx (.callF f es i)):=by
 refine PE.imp (zS fn C.room hg hm hk hb .nil (Fc) hA hd he hpl) fun σ H Q h=>?_;obtain ⟨G,F,δ,d,δ',ok,ev,post⟩:=h;simp only [evE,ah,ae] at ev;obtain ⟨⟨ds,δ1⟩,ea,ev⟩:=ev;dsimp only at ev
 cases q:δ1[i]? with
 | none=>rw [q] at ev;cases ev
 | some sl =>
   rw [q] at ev
   cases sl with
   | no=>cases ev
   | val _=>cases ev
   | own _=>cases ev
   | fnc m cs =>
     dsimp only at ev;split at ev
     . rw [aG] at ev;obtain ⟨r,er,e⟩:=ev;cases e;refine ⟨G,F,δ,ds,δ',ok,ea,fun vs H1 F1 st1 sm1 ok1 r1=>?_⟩;obtain ⟨b,eb,fv⟩:=ok1.sl i _ q;refine ⟨.ref b,eb,?_⟩;show BF X.K (cx.call f) (vs++[.ref b]++[]) H1 Q E0;rw [bX];exact ⟨F1,ds,vs,m,cs,b,d,ok1.fd,ok1.tf,ok1.tabs,rfl,r1.rl n,fv,er,fun v H2 s2 t2 r2=>post v H2 F1 (st1.trans (ok1.call s2 t2).2) (fun z=>(sm1 z).trans s2) (ok1.call s2 t2).1 (gu r2)⟩
     . cases ev
theorem GJ (C:Cok X c cx k) (hA:PA X xs (tEs X.K cx es)) (h:(fk c i n && gH c es xs && ie es && !xs.isEmpty) = true):PE X (.Call (.Name n p) xs [] pos) (tE X.K cx (.callv i es)):=by
 simp only [aa] at h;obtain ⟨⟨⟨h1,h2⟩,h3⟩,h4⟩:=h
 cases xs with
 | nil=>simp at h4
 | cons y ys =>
   obtain ⟨_,_,_,a1,a2⟩:=eO h2;exact BK C h1 h3 hA (cG (cb a1) _ _) (jz a2)
theorem GO (C:Cok X c cx k) (hA:gH c es xs.dropLast = true->oy es = true->∀ z tz,PE X z tz->starEach [z] X.env = (false,eval z X.env)::starEach [] X.env->PA X (xs.dropLast++[z]) (yu X.K cx es tz))
 (h:(match c.fns[f]?,xs.getLast? with
   | some (m,ps),some y=>eS y fun y=>decide (m = n) && eU c n && decide (ps.length = xm es+1) && gH c es xs.dropLast && ie es && fk c i y && !xs.dropLast.isEmpty
   | _,_=>false) = true):PE X (.Call (.Name n p) xs [] pos) (tE X.K cx (.callF f es i)):=by
 split at h
 . rename_i m ps gx ef eg;obtain ⟨g,gp,rfl,hh⟩:=cF h;simp only [aa] at hh;obtain ⟨⟨⟨⟨⟨⟨h1,h2⟩,h3⟩,h4⟩,h5⟩,h6⟩,h7⟩:=hh;obtain ⟨ys,rfl⟩:=List.getLast?_eq_some_iff.mp eg;rw [AZ] at h4 h7 hA;by_cases hf:cx.hf f = true
   . obtain ⟨a,fd,hm,hk,hb,fn⟩:=C.fnF f _ _ ef hf;have e:=of_decide_eq_true h1;subst e;obtain ⟨g1,g2,g3⟩:=C.global h2;obtain ⟨n1,n2,n3,n4⟩:=C.name h6;have A:=hA h4 (gU h5) (.Name g gp) (Lb i) (jV n1 n2 n3 n4) rfl
     cases ys with
     | nil=>simp at h7
     | cons y ys =>
       obtain ⟨_,_,_,a1,a2⟩:=eO h4;exact BL C h5 h6 fn g1 hm hk hb A g2 (cG (cb a1) _ _) (oi rfl a2)
   . intro pins s σ H Q I h;obtain ⟨G,F,δ,d,δ',ok,ev,post⟩:=h;simp only [evE,ah,ae] at ev;obtain ⟨⟨ds,δ1⟩,ea,ev⟩:=ev;dsimp only at ev;split at ev
     . rw [if_neg hf] at ev;cases ev
     . cases ev
 . cases h
end
section
variable {K:PySem.W.Frag} {cx:Cl} {P:aR} {w:bf} {k:Nat}
theorem mT:∀ (us:List Str) (zs:List V),aK K H F (us.map .str) zs->zs = us.map V.str
 | [],zs,h=>by unfold aK at h;exact h
 | u::us,zs,h=>by
   rw [aP] at h;unfold aK at h;obtain ⟨y,ys,rfl,r1,r2⟩:=h;unfold Rel at r1;rw [r1,mT us ys r2,aP]
theorem BX {G:Gh} {F1:aw->Prop} {H1:Hp} {σ:L2.St} {J:L2.It} {ds ys:List D} {δ1 δ2:Loc} {k:Nat} {tg1 tg2:Tg} {src2:It} {ifs:Eo} {elt:E} {p:aw} {xs:List Str} {Q:L2.St->Hp->Prop} (n:(!bS elt) = true) (hge1:md σ.length tg1 = true) (hge2:md σ.length tg2 = true)
 (ok1:Ok K G F1 σ H1 δ1) (wk:Wk K G F1 H1 J ds) (hp:H1 p = none) (ev:gI (outF cx k tg1 tg2 src2 ifs elt) ds δ1 = some (ys,δ2)) (hx:fS ys = some xs) (hr:xs.length < 4000)
 (q:∀ σ' H2 F2,Ok K (G.and p) F2 σ H2 δ2->H2 p = some (SH P w p (ia xs))->Step G F1 H1 F2 H2->((npI src2 && (npO ifs && np elt)) = true->Sim H1 H2)->Q σ' H2) :
 tLp J (gTg K tg1) tTr (tIn P w (tI K cx src2) (gTg K tg2) (tG K cx ifs) p (tE K cx elt)) (σ++aC k none) (upd H1 p (SH P w p [])) Q:=by
 have hg:=ok1.free hp;obtain ⟨ok2,st2⟩:=ok1.enterX hp (oN P w p []);have hFs:∀ b,G.R b->(G.and p).R b:=fun b z=>.inl z
 refine uN (P:=fun r F' σc Hc=>∃ δi zs xr ti,(∃ tl:L2.St,σc = σ++tl/\tl.length = k)/\Ok K (G.and p) F' σ Hc δi/\gI (outF cx k tg1 tg2 src2 ifs elt) r δi = some (zs,δ2)/\fS zs = some xr/\Hc p = some (SH P w p ti)/\xr.foldl ko ti = ia xs/\ti.length+xr.length < 4001/\Step G F1 H1 F' Hc /\
  ((npI src2 && (npO ifs && np elt)) = true->Sim H1 Hc)) wk (fun r F σ H z=>by obtain ⟨_,_,_,_,_,ok,_,_,_,_,_,st,_⟩:=z;exact ⟨st,ok.fd⟩) (F0:=fun b=>F1 b\/b = p) ⟨δ1,ys,xs,[],⟨_,rfl,by simp⟩,ok2,ev,hx,bN,rfl,by simp;lia,st2,fun _=>.of (cg hp _)⟩ ?_ ?_
 . rintro d r F' _ H3 x N ⟨δi,zs,xr,ti,⟨tl,rfl,htl⟩,ok,el,exr,eD,ef,hr',st,sm⟩ rx hN;have hF:F' p:=ok.rf p (.inr rfl);obtain ⟨o,δ5,zs',eo,el',rfl⟩:=rJ el;obtain ⟨δa,es,δb,δc,e1,e2,e3,rfl⟩:=Ff eo;obtain ⟨xa,xb,ea,eb,rfl⟩:=qH exr;rw [ar] at hr';have okx:Ok K (G.and p) F' (σ++tl) H3 (δi++aC k .no):=by rw [<- htl];exact ok.ext tl
   refine lE okx rx e1 fun σ2 ok6 htake=>?_;have t2:σ2.take σ.length = σ:=by rw [htake _ hge1,JN];rfl
   have l2:σ2.length = σ.length+k:=by
    have a1:=okx.len;have a2:=ok6.len;have e1:=oo e1;have e2:(σ++tl).length = σ.length+k:=by rw [ar,htl]
    lia
   have dl:δi.length = σ.length:=ok.len;unfold tTr;refine ka ?_;refine ⟨G.and p,F',δa,es,δb,ok6,e2,fun J' H7 F7 st7 sm7 ok7 wk7=>?_⟩;have eD7:H7 p = some (SH P w p ti):=(st7.res p _ (.inr rfl) hF eD).2;refine Gi n hg ok7 (wk7 G) eD7 e3 ea (by lia) fun σ8 H8 F8 l8 tk8 ok8 eD8 st8 sm8=>?_;have t8:σ8.take σ.length = σ:=(tk8 _ hge2).trans t2
   have tail:∃ tl':L2.St,σ8 = σ++tl'/\tl'.length = k:=by
    refine ⟨σ8.drop σ.length,?_,by rw [eF];lia⟩
    conv=>lhs;rw [<- ib σ.length σ8,t8]
   have s78:=(st7.sub hFs).trans st8
   have fl:∀ (xa ti:List Str),(xa.foldl ko ti).length<=ti.length+xa.length:=fun xa=>by
    induction xa with
    | nil=>intro ti;simp
    | cons x xa ih =>
      intro ti;have:=ih (ko ti x);have:=xJ ti x;simp only [dN,ay]
      lia
   have fa:=fl xa ti;refine hN F8 _ _ ⟨δc.take δi.length,zs',xb,xa.foldl ko ti,tail,?_,el',eb,eD8,by rw [<- ef,Hl],by lia,st.trans s78,fun z=>?_⟩
   . have:=ok8.cut δi.length;rw [dl,t8] at this;rw [dl];exact this
   . have z':=z;rw [aa] at z';exact sm8 z'.2 H1 hp ((sm z).trans (sm7 z'.1))
 . rintro F' _ Hc ⟨δi,zs,xr,ti,_,ok,el,exr,eD,ef,hr',st,sm⟩;cases el;have:xr = []:=by simpa [fS] using exr.symm
   subst this;exact q _ Hc F' ok (by rw [<- ef];exact eD) st sm
theorem Ee {X:Cx} {c:Ck} {sc:en} {Nc:List Str} {kk:Nat} {tg1 tg2:Tg} {src1 src2:It} {ifs:Eo} {elt:E} {ex t1 it1 t2 it2:aI} {il:List aI} {p pos cp:Pos} (C:Cok X c cx k) (n:(!bS elt) = true) (hk:Nc.length = c.N.length+kk) (hge1:md c.N.length tg1 = true) (hge2:md c.N.length tg2 = true) (hs:jT c sc = true) (hn:namesOk c sc Nc = true)
 (gg:Gl X "sorted") (gm:X.mg "sorted" = none) (gn:("sorted":Str)≠"__name__") (gd:(("sorted":Str) == ("__debug__":Str)) = false)
 (htg1:∀ cl Ca s H fp,PG (cxC X sc cl Ca Nc s H fp) t1 (gTg X.K tg1)) (htg2:∀ cl Ca s H fp,PG (cxC X sc cl Ca Nc s H fp) t2 (gTg X.K tg2)) (hI:PI X t1 it1 (tI X.K cx src1)) (hI2:∀ cl Ca s H fp,PI (cxC X sc cl Ca Nc s H fp) t2 it2 (tI X.K cx src2)) (hG:∀ cl Ca s H fp,PTs (cxC X sc cl Ca Nc s H fp) il (tG X.K cx ifs)) (hE:∀ cl Ca s H fp,PE (cxC X sc cl Ca Nc s H fp) ex (tE X.K cx elt))
 (hset:∀ v,foldedSetIterable it1 X.env v = pure v) (hset2:∀ env v,foldedSetIterable it2 env v = pure v):PE X (.Call (.Name "sorted" p) [.SetComp ex [⟨t1,it1,[],0⟩,⟨t2,it2,il,0⟩] sc cp] [] pos) (tE X.K cx (.sset kk tg1 src1 tg2 src2 ifs elt)):=by
 obtain ⟨nd,hvis⟩:=jB hn;have hC:=BW (pos:=cp) (Nc:=Nc) C.xe C.calm (mP C hs) (fun i x hi=>by rw [C.hN] at hi ⊢;exact hvis i x hi) (by rw [C.hN,hk];lia) hI htg1 hI2 htg2 hG hE hset hset2;have hA:PA X [.SetComp ex [⟨t1,it1,[],0⟩,⟨t2,it2,il,0⟩] sc cp] (zw (tSC X.prog X.w (Nc.length - X.N.length) (tI X.K cx src1) (gTg X.K tg1) (tI X.K cx src2) (gTg X.K tg2) (tG X.K cx ifs) (tE X.K cx elt)) Lc):=iB hC mi rfl;intro pins s σ H Q I h;refine iQ (vk C.calm C.units) gg gm rfl hA gn gd rfl rfl pins s σ H Q I ?_;obtain ⟨G,F,δ,d,δ',ok,ev,post⟩:=h;obtain ⟨ds,δ1,ys,xs,ei,ee,hx,hl,h64,rfl⟩:=zy ev;have ek:Nc.length - X.N.length = kk:=by rw [C.hN,hk];lia
 rw [ek];refine ⟨G,F,δ,ds,δ1,ok,ei,fun J H1 F1 st1 sm1 ok1 wk=>fun D hp=>?_⟩;have hg:=ok1.free hp;refine BX n (by rw [I.len,C.hN];exact hge1) (by rw [I.len,C.hN];exact hge2) ok1 (wk _) hp ee hx hl fun σ' H2 F2 ok2 eD st2 sm2=>?_;refine ⟨D,ia xs,rfl,eD,h64,fun p' zs F' hp' rl=>?_⟩
 have st':Step G F1 H1 (fun b=>F2 b/\b≠D) H2:=⟨st2.keep,fun b z=>st2.grow b z.1,fun b o r f e=>by
  obtain ⟨a1,a2⟩:=st2.res b o r f e;exact ⟨⟨a1,fun w=>by rw [w,hp] at e;cases e⟩,a2⟩,st2.tb⟩
 have ok3:=ok2.leave hg;have sm3:=cg hp' (.lst zs);refine post _ _ _ ((st1.trans st').trans (Step.of_same sm3)) (fun z=>?_) (ok3.same' sm3) (gu ?_)
 . have z':(npI src1 && npI src2 && npO ifs && np elt) = true:=z;simp only [aa] at z';exact ((sm1 z'.1.1.1).trans (sm2 (by simp only [aa];exact ⟨z'.1.1.2,z'.1.2,z'.2⟩))).trans (.of sm3)
 . obtain ⟨us,e1,_,_⟩:=gc (ia xs)
   have rl2:aK X.K H2 (fun b=>F2 b/\b≠D) (dh ((ia xs).map .str)) zs:=by
    rw [e1] at rl ⊢;have:zs = us.map V.str:=mT us zs rl;rw [this];exact ot us
   unfold Rel;exact ⟨p',zs,rfl,.inl ⟨.inl bN,qZ ok3.fd hp'⟩,aK.step ok3.fd (qI sm3) _ _ rl2⟩
end
section
variable {cx:Cl} {k:Nat}
end
section
variable {cx:Cl} {k:Nat}
theorem Ia (C:Cok X c cx k) (gg:Gl X "sorted") (gm:X.mg "sorted" = none) (gn:("sorted":Str)≠"__name__") (gd:(("sorted":Str) == ("__debug__":Str)) = false)
 (fg:Gl X "set") (fm:X.mg "set" = none) (fn:("set":Str)≠"__name__") (fd:(("set":Str) == ("__debug__":Str)) = false) (np':(!bS a) = true) (ha:PE X y (tE X.K cx a))
 (he:starEach [y] X.env = (false,eval y X.env)::starEach [] X.env):PE X (.Call (.Name "sorted" p) [.Call (.Name "set" p2) [y] [] cp] [] pos) (tE X.K cx (.ssd a)):=by
 have hS:PE X (.Call (.Name "set" p2) [y] [] cp) _:=iK (Cz C.calm C.units) fg fm rfl (iB ha mi he) fn fd he rfl;refine PE.imp (iQ (vj C.calm C.units) gg gm rfl (iB hS mi rfl) gn gd rfl rfl) fun σ H Q h=>?_;obtain ⟨G,F,δ,d,δ',ok,ev,post⟩:=h;simp only [evE,ah,ae] at ev;obtain ⟨⟨x,δ1⟩,ea,ev⟩:=ev
 cases x with
 | lst ds =>
   dsimp only at ev;split at ev
   . rename_i hs;cases ev;rw [aa,aa] at hs;refine ⟨G,F,δ,_,_,ok,ea,fun v H1 F1 st sm ok1 r=>?_⟩;obtain ⟨q,ys,rfl,h1,h2⟩:=r.b.lst;obtain ⟨p1,p2',p3⟩:=qR h2
     have ed:((ds.zip ys).foldl gz []).map (·.1) = kB ds:=by
      rw [tF,p1];rfl
     have hl:((ds.zip ys).foldl gz []).length < 64:=by
      have:=(dt hs.1.2).1;rw [<- ed,aj] at this;exact this
     refine ⟨F1,q,ds,ys,rfl,h1.sq,h2,hs.1.1,hl,fun D hD=>?_⟩;have sd:=cg hD (Iw X D ((ds.zip ys).foldl gz []));have ok2:=ok1.same' sd;refine ⟨F1,D,(ds.zip ys).foldl gz [],rfl,bN,fun q hq=>?_,by rw [ed];exact hs.1.2,by rw [ed];exact hs.2,fun p' zs hp' rl=>?_⟩
     . rcases tB _ _ hq with z | z
       . cases z
       . exact ⟨bx.mp hs.1.1 q.1 (by rw [<- p1];exact iW z),Rel.step ok1.fd (qI sd) _ _ (p3 q z)⟩
     . rw [ed] at rl;have sp:=cg hp' (.lst zs);refine post _ _ F1 ((st.trans (Step.of_same sd)).trans (Step.of_same sp)) (fun z=>((sm z).trans (.of sd)).trans (.of sp)) (ok2.same' sp) (gu ?_);unfold Rel;exact ⟨p',zs,rfl,.inl ⟨.inl bN,qZ ok2.fd hp'⟩,aK.step ok2.fd (qI sp) _ _ rl⟩
   . cases ev
 | _=>cases ev
end
section
variable {cx:Cl} {δ:Loc}
end
end PP
end
section
namespace PP
open PySem PySem.Spec L2 PyProof.Rows
variable [Tbs]
end PP
end
section
namespace PP
open PySem L2 PyProof.Rows
variable [Tbs]
section
variable {K:PySem.W.Frag} {cx:Cl} {w:bf}
end
section
variable {cx:Cl} {δ:Loc}
end
section
variable {cx:Cl} {k:Nat}
theorem kK {c:Ck} {tg:Tg} {ts:List Str} {kk:Nat} (h:ts.length = kk):(jC ts c.N++ts).length = c.N.length+kk:=by
 unfold jC;rw [ar,aj,h]
theorem nH {c:Ck} {t:It} {x:aI} (h:ckI c t x = true) (env:Env) (v:af):foldedSetIterable x env v = pure v:=by
 cases t with
 | rng e=>obtain ⟨_,_,_,_,rfl,_⟩:=fZ h;rfl
 | sq e =>
   have h:(ckE c e x && !bS e) = true:=h;rw [aa] at h;exact Gn (cb h.1) env v
theorem iF {X:Cx} {c:Ck} {f:Blt} {es:Es} {x:aI} (C:Cok X c cx k) (h:ckE c (.blt f es) x = true) (hE:∀ e y,es = .cons e .nil->ckE c e y = true->PE X y (tE X.K cx e)) (hA:∀ xs,gH c es xs = true->oy es = true->PA X xs (tEs X.K cx es)) :
 PE X x (tE X.K cx (.blt f es))/\∀ whole,isTrue x X.env whole = (do let v <- whole;standAt x.pos;holding [v] (truthy v)):=by
 obtain ⟨n,np,xs,p,rfl,hh⟩:=fZ h;refine ⟨?_,fun _=>rfl⟩;simp only [aa] at hh;obtain ⟨⟨h1,h2⟩,h3⟩:=hh;have e:=of_decide_eq_true h1;subst e
 cases hT:tyName f with
 | some T =>
   rw [hT] at h3;obtain ⟨y,w,rfl,h4⟩:=qX h3;obtain ⟨t,tp,rfl,h5⟩:=cF h4;simp only [aa] at h5;obtain ⟨⟨⟨a1,a2⟩,a3⟩,a4⟩:=h5;have et:=of_decide_eq_true a1
   cases es with
   | nil=>exact absurd (fL a3).1 (by simp)
   | cons e es' =>
     obtain ⟨_,_,q0,a3'⟩:=eJ a3;cases q0;rw [aa] at a3'
     cases es' with
     | cons _ _=>obtain ⟨_,_,q0,_⟩:=eJ a3'.2;cases q0
     | nil =>
       have q:=hE e y rfl a3'.1;obtain ⟨t1,t2,t3⟩:=C.global a2
       have tb:t∈jG:=by
        subst et;cases f<;>simp [tyName] at hT<;>subst hT<;>decide +kernel
       have hs:starEach [y,.Name t tp] X.env = [(false,eval y X.env),(false,eval (.Name t tp) X.env)]:=by rw [cG (cb a3'.1)];rfl
       have nm:tL f = ("isinstance":Str):=by cases f<;>simp [tyName] at hT<;>rfl
       rw [nm] at h2 ⊢;obtain ⟨g1,_,_⟩:=C.global h2
       exact Lk hT et g1 (C.blt _ (by decide +kernel)) t1 (C.blt _ tb) q hs
 | none =>
   rw [hT] at h3;simp only [aa] at h3;obtain ⟨⟨b1,b2⟩,b3⟩:=h3
   cases xs with
   | nil=>simp at b1
   | cons y ys=>exact Nj C h2 hT (hA _ b2 b3) b2
theorem GN {X:Cx} {c:Ck} {f:Nat} {es:Es} {x:aI} (C:Cok X c cx k) (h:ckE c (.call f es) x = true) (hA:∀ xs,gH c es xs = true->oy es = true->PA X xs (tEs X.K cx es)) :
 PE X x (tE X.K cx (.call f es))/\∀ whole,isTrue x X.env whole = (do let v <- whole;standAt x.pos;holding [v] (truthy v)):=by
 obtain ⟨n,np,xs,p,rfl,hh⟩:=fZ h;refine ⟨?_,fun _=>rfl⟩;have h':=hh;split at h'
 . simp only [aa] at h';exact call_of C (hA _ h'.1.1.2 (gU h'.1.2)) hh
 . cases h'
theorem noT (h:∀ δ,evT cx e δ = none):PT X x (tT X.K cx e):=fun pins s σ H Q I q=>by
 obtain ⟨G,F,δ,b,δ',ok,ev,post⟩:=q;rw [h] at ev;cases ev
theorem noE {X:Cx} {e:E} {x:aI} (h:∀ δ,evE cx e δ = none):PE X x (tE X.K cx e):=fun pins s σ H Q I q=>by
 obtain ⟨G,F,δ,b,δ',ok,ev,post⟩:=q;rw [h] at ev;cases ev
mutual
theorem dR:∀ (e:E) (X:Cx) (c:Ck) (x:aI),Cok X c cx k->ckE c e x = true->PE X x (tE X.K cx e)
 | .var i,X,c,x,C,h=>by
   obtain ⟨_,_,rfl,hq1⟩:=cF h;replace h:=hq1
   . obtain ⟨n1,n2,n3,n4⟩:=C.name h
     exact HX n1 n2 n3 n4
 | .pk i,X,c,x,C,h=>by
   obtain ⟨_,_,rfl,hq1⟩:=cF h;replace h:=hq1
   . obtain ⟨n1,n2,n3,n4⟩:=C.name h
     exact Li n1 n2 n3 n4
 | .glob g,X,c,x,C,h=>by
   obtain ⟨_,_,rfl,hq1⟩:=cF h;replace h:=hq1
   . rw [aa] at h;have e:=of_decide_eq_true h.1;obtain ⟨g1,g2,g3⟩:=C.global h.2;obtain ⟨d,hd⟩:=C.gsome g _ e;obtain ⟨u,v,hm,r,hr⟩:=C.glob g _ d e hd
     exact Ei g1 hm r (fun d' hd'=>by rw [hd] at hd';cases hd';exact hr) g2
 | .int i,X,c,x,C,h=>by
   obtain ⟨_,_,_,rfl,hq1⟩:=qW h;obtain ⟨_,rfl,hq2⟩:=Mn hq1;replace h:=hq2
   . have e:=of_decide_eq_true h;subst e;exact Ik
 | .bl i,X,c,x,C,h=>by
   obtain ⟨_,_,_,rfl,hq1⟩:=qW h;obtain ⟨_,rfl,hq2⟩:=Mp hq1;replace h:=hq2
   . have e:=of_decide_eq_true h;subst e;exact Ll
 | .non,X,c,x,C,h=>by
   obtain ⟨_,_,_,rfl,hq1⟩:=qW h;replace h:=hq1;have e:=FZ h;subst e
   exact Ie
 | .str i,X,c,x,C,h=>by
   obtain ⟨_,_,_,rfl,hq1⟩:=qW h;obtain ⟨_,rfl,hq2⟩:=Mi hq1;replace h:=hq2
   . have e:=of_decide_eq_true h;subst e;exact HZ
 | .bin op a b,X,c,x,C,h=>by
   obtain ⟨_,_,_,_,rfl,hq1⟩:=wN h;replace h:=hq1
   . simp only [aa] at h;obtain ⟨⟨⟨h1,h2⟩,h3⟩,h4⟩:=h
     exact Im h1 h4 (dR a X c _ C h2) (dR b X c _ C h3)
 | .cmp op a b,X,c,x,C,h=>by
   obtain ⟨_,_,_,_,rfl,hq1⟩:=qV h;obtain ⟨_,rfl,hq2⟩:=eT hq1;obtain ⟨_,rfl,hq3⟩:=eT hq2;replace h:=hq3
   . simp only [aa] at h;obtain ⟨⟨⟨h1,h2⟩,h3⟩,h4⟩:=h
     exact Il C.units h1 h4 (dR a X c _ C h2) (dR b X c _ C h3) (tw (cb h3) _)
 | .and a b,X,c,x,C,h=>by
   obtain ⟨o,_,p,rfl,hq1⟩:=mV h;obtain ⟨y,r,rfl,hq2⟩:=eJ hq1;obtain ⟨z,r2,rfl,hq3⟩:=eJ hq2;simp only [aa] at hq3;obtain ⟨⟨⟨⟨h0,h1⟩,h2⟩,h3⟩,h4⟩:=hq3;cases o<;>first | (cases h0;done) | skip
   cases r2 with
   | nil=>exact snd_and h3 h4 (dR a X c _ C h1) (EX (dR b X c _ C h2))
   | cons w r=>exact snd_and h3 h4 (dR a X c _ C h1) (dR b X c _ C h2)
 | .or a b,X,c,x,C,h=>by
   obtain ⟨o,_,p,rfl,hq1⟩:=mV h;obtain ⟨y,r,rfl,hq2⟩:=eJ hq1;obtain ⟨z,r2,rfl,hq3⟩:=eJ hq2;simp only [aa] at hq3;obtain ⟨⟨⟨⟨h0,h1⟩,h2⟩,h3⟩,h4⟩:=hq3;cases o<;>first | (cases h0;done) | skip
   cases r2 with
   | nil=>exact Eg h3 h4 (dR a X c _ C h1) (EX (dR b X c _ C h2))
   | cons w r=>exact Eg h3 h4 (dR a X c _ C h1) (dR b X c _ C h2)
 | .not a,X,c,x,C,h=>by
   obtain ⟨o,_,_,rfl,hh⟩:=qc h;simp only [aa] at hh;obtain rfl:=xh hh.1.1
   exact Ic hh.2 (dR a X c _ C hh.1.2)
 | .neg a,X,c,x,C,h=>by
   obtain ⟨o,_,_,rfl,hh⟩:=qc h;simp only [aa] at hh;obtain rfl:=Ga hh.1.1
   exact Ih hh.2 (dR a X c _ C hh.1.2)
 | .ssd a,X,c,x,C,h=>by
   obtain ⟨_,_,_,_,rfl,hq1⟩:=fZ h;obtain ⟨_,rfl,hq2⟩:=eT hq1;obtain ⟨_,_,_,_,rfl,hq3⟩:=fZ hq2;obtain ⟨_,rfl,hq4⟩:=eT hq3;replace h:=hq4
   . simp only [aa] at h;obtain ⟨⟨⟨⟨⟨h1,h2⟩,h3⟩,h4⟩,h5⟩,h6⟩:=h;have e1:=of_decide_eq_true h1;have e2:=of_decide_eq_true h2;subst e1 e2;obtain ⟨g1,g2,g3⟩:=C.global h3;obtain ⟨f1,f2,f3⟩:=C.global h4
     exact Ia C g1 (C.blt _ (by decide +kernel)) g3 g2 f1 (C.blt _ (by decide +kernel)) f3 f2 h6 (dR a X c _ C h5) (cG (cb h5) _ _)
 | .ite t a b,X,c,x,C,h=>by
   obtain ⟨_,_,_,_,rfl,hq1⟩:=zV h;replace h:=hq1
   . simp only [aa] at h;obtain ⟨⟨⟨⟨h1,h2⟩,h3⟩,h4⟩,h5⟩:=h
     exact Ij h4 h5 (pN t X c _ C h1) (dR a X c _ C h2) (dR b X c _ C h3)
 | .tup es,X,c,x,C,h=>by
   obtain ⟨_,_,_,rfl,hq1⟩:=jA h;replace h:=hq1
   . rw [aa] at h
     exact HY h.2 (gk es X c _ C h.1 (gU h.2))
 | .lst es,X,c,x,C,h=>by
   obtain ⟨_,_,rfl,hq1⟩:=qU h;replace h:=hq1
   . rw [aa] at h
     exact Ii h.2 (gk es X c _ C h.1 (gU h.2))
 | .ix a b,X,c,x,C,h=>by
   obtain ⟨_,_,_,rfl,hq1⟩:=kP h;replace h:=hq1
   . simp only [aa] at h;obtain ⟨⟨⟨h1,h2⟩,h3⟩,h4⟩:=h
     exact Lj h3 (dR a X c _ C h1) (dR b X c _ C h2) (Jw (cb h2))
 | .sl a lo hi,X,c,x,C,h=>by
   obtain ⟨_,_,_,rfl,hh⟩:=kP h;obtain ⟨_,_,o,_,rfl,h9⟩:=zU hh;simp only [aa] at h9;obtain ⟨h0,⟨⟨h1,h2⟩,h3⟩,h4⟩:=h9;obtain rfl:=dF.mp h0
   exact Lh (by simpa using h4) (dR a X c _ C h1) (Io lo X c _ C h2) (Io hi X c _ C h3)
 | .call f es,X,c,x,C,h=>(GN C h fun xs h1 h2=>gk es X c xs C h1 h2).1
 | .blt f .nil,X,c,x,C,h=>(iF C h (fun e y z=>by cases z) fun xs h1 h2=>gk .nil X c xs C h1 h2).1
 | .blt f (.cons e .nil),X,c,x,C,h=>(iF C h (fun e' y z h1=>by cases z;exact dR e X c y C h1) fun xs h1 h2=>gk (.cons e .nil) X c xs C h1 h2).1
 | .blt f (.cons e (.cons e2 es)),X,c,x,C,h=>(iF C h (fun e' y z=>by cases z) fun xs h1 h2=>gk (.cons e (.cons e2 es)) X c xs C h1 h2).1
 | .callv i es,X,c,x,C,h=>by
   obtain ⟨_,_,_,_,rfl,hq1⟩:=fZ h;replace h:=hq1
   . exact GJ C (gk es X c _ C (by simp only [aa] at h;exact h.1.1.2) (by simp only [aa] at h;exact gU h.1.2)) h
 | .callF f es i,X,c,x,C,h=>by
   obtain ⟨_,_,_,_,rfl,hq1⟩:=fZ h;replace h:=hq1
   . exact GO C (fun h1 h2 z tz hz hs=>yy es X c _ z tz C h1 h2 hz hs) h
 | .bad,X,c,x,C,h=>noE fun δ=>rfl
 | .isdig i,X,c,x,C,h=>by
   obtain ⟨_,_,_,_,_,rfl,hln,hh⟩:=uE h;obtain ⟨_,_,rfl,h2⟩:=cF hh;obtain ⟨rfl,h3⟩:=fL h2;rw [aa] at h3;have e:=of_decide_eq_true h3.1;subst e;obtain ⟨n1,n2,n3,n4⟩:=C.name h3.2
   exact BI n1 n2 n3 n4 hln
 | .comp kk tg src ifs elt,X,c,x,C,h=>by
   obtain ⟨_,_,_,_,rfl,hq1⟩:=qd h;obtain ⟨_,rfl,hq2⟩:=eT hq1;obtain ⟨_,_,_,rfl,hq3⟩:=uF hq2;replace h:=hq3
   . split at h
     . rename_i ts ht;simp only [aa] at h;obtain ⟨⟨⟨⟨⟨⟨⟨⟨h1,h2⟩,h3⟩,h4⟩,h5⟩,h6⟩,h7⟩,h8⟩,h9⟩:=h;have nd:=(jB h4).1
       exact Ej C h9 (kK (tg:=tg) (of_decide_eq_true h1)) h2 h3 h4 (fun cl Ca s H fp=>me (dZ C h3 nd cl Ca s H fp) h5) (Ez src X c _ _ C h6)
        (fun cl Ca s H fp=>Lo ifs _ _ _ (dZ C h3 nd cl Ca s H fp) h7) (fun cl Ca s H fp=>dR elt _ _ _ (dZ C h3 nd cl Ca s H fp) h8) (fun v=>nH h6 _ v)
     . cases h
 | .sset kk tg1 src1 tg2 src2 ifs elt,X,c,x,C,h=>by
   obtain ⟨_,_,_,_,rfl,hq1⟩:=fZ h;obtain ⟨_,rfl,hq2⟩:=eT hq1;obtain ⟨_,_,_,_,rfl,hq3⟩:=Jc hq2;obtain ⟨_,_,rfl,hq4⟩:=qX hq3;obtain ⟨_,_,_,rfl,hq5⟩:=uF hq4;obtain ⟨_,_,_,rfl,hq6⟩:=uF hq5;obtain ⟨rfl,hq7⟩:=fL hq6;replace h:=hq7
   . rw [aa,aa] at h;obtain ⟨⟨h1,h2⟩,h⟩:=h;have e1:=of_decide_eq_true h1;subst e1;obtain ⟨g1,g2,g3⟩:=C.global h2;split at h
     . rename_i n1 n2 q1 q2;simp only [aa] at h;obtain ⟨⟨⟨⟨⟨⟨⟨⟨⟨⟨⟨h3,h4⟩,h5⟩,h6⟩,h7⟩,h8⟩,h9⟩,h10⟩,h11⟩,h12⟩,h13⟩,h14⟩:=h;have nd:=(jB h7).1
       exact Ee C h14 (kK (tg:=tg1) (of_decide_eq_true h3)) h4 h5 h6 h7 g1 (C.blt _ (by decide +kernel)) g3 g2 (fun cl Ca s H fp=>me (dZ C h6 nd cl Ca s H fp) h8) (fun cl Ca s H fp=>me (dZ C h6 nd cl Ca s H fp) h9) (Ez src1 X c _ _ C h10)
        (fun cl Ca s H fp=>Ez src2 _ _ _ _ (dZ C h6 nd cl Ca s H fp) h11) (fun cl Ca s H fp=>Lo ifs _ _ _ (dZ C h6 nd cl Ca s H fp) h12) (fun cl Ca s H fp=>dR elt _ _ _ (dZ C h6 nd cl Ca s H fp) h13) (fun v=>nH h10 _ v) (fun env v=>nH h11 env v)
     . cases h
theorem pN:∀ (e:E) (X:Cx) (c:Ck) (x:aI),Cok X c cx k->ckE c e x = true->PT X x (tT X.K cx e)
 | .var i,X,c,x,C,h=>by
   obtain ⟨_,_,rfl,hq1⟩:=cF h;replace h:=hq1
   . obtain ⟨n1,n2,n3,n4⟩:=C.name h
     exact vY (.inl rfl) n1 n2 n3 n4
 | .pk i,X,c,x,C,h=>by
   obtain ⟨_,_,rfl,hq1⟩:=cF h;replace h:=hq1
   . obtain ⟨n1,n2,n3,n4⟩:=C.name h
     exact vY (.inr rfl) n1 n2 n3 n4
 | .cmp op a b,X,c,x,C,h=>by
   obtain ⟨_,_,_,_,rfl,hq1⟩:=qV h;obtain ⟨_,rfl,hq2⟩:=eT hq1;obtain ⟨_,rfl,hq3⟩:=eT hq2;replace h:=hq3
   . simp only [aa] at h;obtain ⟨⟨⟨h1,h2⟩,h3⟩,h4⟩:=h
     exact Em C.units h1 h4 (dR a X c _ C h2) (dR b X c _ C h3) (tw (cb h3) _)
 | .and a b,X,c,x,C,h=>by
   obtain ⟨o,_,p,rfl,hq1⟩:=mV h;obtain ⟨y,r,rfl,hq2⟩:=eJ hq1;obtain ⟨z,r2,rfl,hq3⟩:=eJ hq2;simp only [aa] at hq3;obtain ⟨⟨⟨⟨h0,h1⟩,h2⟩,h3⟩,h4⟩:=hq3;cases o<;>first | (cases h0;done) | skip
   cases r2 with
   | nil=>exact vZ (pN a X c _ C h1) (II (pN b X c _ C h2))
   | cons w r=>exact vZ (pN a X c _ C h1) (PT.pw (pN b X c _ C h2))
 | .or a b,X,c,x,C,h=>by
   obtain ⟨o,_,p,rfl,hq1⟩:=mV h;obtain ⟨y,r,rfl,hq2⟩:=eJ hq1;obtain ⟨z,r2,rfl,hq3⟩:=eJ hq2;simp only [aa] at hq3;obtain ⟨⟨⟨⟨h0,h1⟩,h2⟩,h3⟩,h4⟩:=hq3;cases o<;>first | (cases h0;done) | skip
   cases r2 with
   | nil=>exact zD (pN a X c _ C h1) (LD (pN b X c _ C h2))
   | cons w r=>exact zD (pN a X c _ C h1) (PT.pw (pN b X c _ C h2))
 | .not a,X,c,x,C,h=>by
   obtain ⟨o,_,_,rfl,hh⟩:=qc h;simp only [aa] at hh;obtain rfl:=xh hh.1.1
   exact El (pN a X c _ C hh.1.2)
 | .call f es,X,c,x,C,h=>pZ (es:=es) (f:=cx.call f) (GN C h fun xs h1 h2=>gk es X c xs C h1 h2).1 (GN C h fun xs h1 h2=>gk es X c xs C h1 h2).2 rfl (fun δ=>rfl) fun δ=>by rw [evT]
 | .blt f .nil,X,c,x,C,h=>pZ (es:=.nil) (f:=lj f) (iF C h (fun e y z=>by cases z) fun xs h1 h2=>gk .nil X c xs C h1 h2).1 (iF C h (fun e y z=>by cases z) fun xs h1 h2=>gk .nil X c xs C h1 h2).2 rfl (fun δ=>rfl) fun δ=>by rw [evT]
 | .blt f (.cons e .nil),X,c,x,C,h=>pZ (es:=.cons e .nil) (f:=lj f) (iF C h (fun e' y z h1=>by cases z;exact dR e X c y C h1) fun xs h1 h2=>gk (.cons e .nil) X c xs C h1 h2).1 (iF C h (fun e' y z h1=>by cases z;exact dR e X c y C h1) fun xs h1 h2=>gk (.cons e .nil) X c xs C h1 h2).2 rfl (fun δ=>rfl) fun δ=>by rw [evT]
 | .blt f (.cons e (.cons e2 es)),X,c,x,C,h=>pZ (es:=.cons e (.cons e2 es)) (f:=lj f) (iF C h (fun e' y z=>by cases z) fun xs h1 h2=>gk (.cons e (.cons e2 es)) X c xs C h1 h2).1 (iF C h (fun e' y z=>by cases z) fun xs h1 h2=>gk (.cons e (.cons e2 es)) X c xs C h1 h2).2 rfl (fun δ=>rfl) fun δ=>by rw [evT]
 | .callv _ _,X,c,x,C,h=>noT fun δ=>rfl
 | .callF _ _ _,X,c,x,C,h=>noT fun δ=>rfl
 | .glob _,X,c,x,C,h=>noT fun δ=>rfl
 | .int _,X,c,x,C,h=>noT fun δ=>rfl
 | .bl _,X,c,x,C,h=>noT fun δ=>rfl
 | .non,X,c,x,C,h=>noT fun δ=>rfl
 | .str _,X,c,x,C,h=>noT fun δ=>rfl
 | .neg _,X,c,x,C,h=>noT fun δ=>rfl
 | .ssd _,X,c,x,C,h=>noT fun δ=>rfl
 | .bin ..,X,c,x,C,h=>noT fun δ=>rfl
 | .ite ..,X,c,x,C,h=>noT fun δ=>rfl
 | .tup _,X,c,x,C,h=>noT fun δ=>rfl
 | .lst _,X,c,x,C,h=>noT fun δ=>rfl
 | .ix ..,X,c,x,C,h=>noT fun δ=>rfl
 | .sl ..,X,c,x,C,h=>noT fun δ=>rfl
 | .isdig _,X,c,x,C,h=>noT fun δ=>rfl
 | .bad,X,c,x,C,h=>noT fun δ=>rfl
 | .sset ..,X,c,x,C,h=>noT fun δ=>rfl
 | .comp ..,X,c,x,C,h=>noT fun δ=>rfl
theorem gk:∀ (es:Es) (X:Cx) (c:Ck) (xs:List aI),Cok X c cx k->gH c es xs = true->oy es = true->PA X xs (tEs X.K cx es)
 | .nil,X,c,xs,C,h,_=>by
   obtain ⟨rfl,hq1⟩:=fL h;replace h:=hq1
   . exact um
 | .cons e es,X,c,xs,C,h,ho=>by
   obtain ⟨_,_,rfl,hq1⟩:=eJ h;replace h:=hq1
   . rw [aa] at h;have ho':((!bS e || npS es) && oy es) = true:=ho;rw [aa] at ho';exact qK ho'.1 (dR e X c _ C h.1) (gk es X c _ C h.2 ho'.2) (cG (cb h.1) _ _)
theorem yy:∀ (es:Es) (X:Cx) (c:Ck) (xs:List aI) (z:aI) (tz:TE),Cok X c cx k->gH c es xs = true->oy es = true->PE X z tz->starEach [z] X.env = (false,eval z X.env)::starEach [] X.env->PA X (xs++[z]) (yu X.K cx es tz)
 | .nil,X,c,xs,z,tz,C,h,_,hz,hs=>by
   obtain ⟨rfl,hq1⟩:=fL h;replace h:=hq1
   . exact Eh hz hs
 | .cons e es,X,c,xs,z,tz,C,h,ho,hz,hs=>by
   obtain ⟨_,_,rfl,hq1⟩:=eJ h;replace h:=hq1
   . rw [aa] at h;have ho':((!bS e || npS es) && oy es) = true:=ho;rw [aa] at ho';exact BJ ho'.1 (dR e X c _ C h.1) (yy es X c _ z tz C h.2 ho'.2 hz hs) (cG (cb h.1) _ _)
theorem Io:∀ (o:Eo) (X:Cx) (c:Ck) (l:Option aI),Cok X c cx k->ckO c o l = true->PO X l (tO X.K cx o)
 | .no,X,c,l,C,h=>by
   obtain rfl:=dF.mp h
   exact JQ (fun e z=>by cases z) fun _=>rfl
 | .yes e,X,c,l,C,h=>by
   obtain ⟨_,rfl,hq1⟩:=Fl h;replace h:=hq1
   . rw [aa] at h;have q:=dR e X c _ C h.1;exact JQ (fun e' z=>by cases z;exact ⟨_,rfl,h.2,q⟩) fun z=>by cases z
theorem Lo:∀ (o:Eo) (X:Cx) (c:Ck) (l:List aI),Cok X c cx k->ckG c o l = true->PTs X l (tG X.K cx o)
 | .no,X,c,l,C,h=>by
   obtain ⟨rfl,hq1⟩:=fL h;replace h:=hq1
   . intro pins s σ H Q I q;obtain ⟨G,F,δ,b,δ',ok,ev,post⟩:=q;simp only [evG] at ev;cases ev
     exact zO pins s σ H Q I (post H F Step.refl (fun _=>Sim.refl H) ok)
 | .yes e,X,c,l,C,h=>by
   obtain ⟨_,rfl,hq1⟩:=eT h;replace h:=hq1
   . have q:=IJ (pN e X c _ C h);intro pins s σ H Q I z;obtain ⟨G,F,δ,b,δ',ok,ev,post⟩:=z;simp only [evG] at ev;exact q pins s σ H Q I ⟨G,F,δ,b,δ',ok,ev,post⟩
theorem Ez:∀ (t:It) (X:Cx) (c:Ck) (x tg:aI),Cok X c cx k->ckI c t x = true->PI X tg x (tI X.K cx t)
 | .rng e,X,c,x,tg,C,h=>by
   obtain ⟨_,_,_,_,rfl,hq1⟩:=fZ h;obtain ⟨_,rfl,hq2⟩:=eT hq1;replace h:=hq2
   . simp only [aa] at h;obtain ⟨⟨⟨h1,h2⟩,h3⟩,h4⟩:=h;have z:=of_decide_eq_true h1;subst z
     exact Ib h4 (C.global h2).1 (C.blt _ (by decide +kernel)) (dR e X c _ C h3) (cG (cb h3) _ _)
 | .sq e,X,c,x,tg,C,h=>by
   have h:(ckE c e x && !bS e) = true:=h;rw [aa] at h;exact Lg h.2 (dR e X c x C h.1)
end
end
noncomputable def AR (K:PySem.W.Frag) (G:Gh) (F:aw->Prop) (H:Hp) (o:Out) (E:Ends):Prop:=match o with
 | .nx δ'=>∀ σ' H' F',Step G F H F' H'->Ok K G F' σ' H' δ'->E.nx σ' H'
 | .rt d δ'=>∀ v σ' H' F',Step G F H F' H'->Ok K G F' σ' H' δ'->Rel K H' F' d v->E.rt v H'
 | .ro d δ'=>∀ a u σ' H' F',Step G F H F' H'->Ok K G F' σ' H' δ'->F' a->G.free a->H' a = some u->iq K H' F' d u->E.rt (.ref a) H'
noncomputable def tS (K:PySem.W.Frag) (ev:Loc->Option Out):TS:=fun E σ H=>∃ G F δ o,Ok K G F σ H δ/\ev δ = some o/\AR K G F H o E
theorem AR.step {K:PySem.W.Frag} {G:Gh} {F F1:aw->Prop} {H H1:Hp} {o:Out} {E:Ends} (st:Step G F H F1 H1) (h:AR K G F H o E):AR K G F1 H1 o E:=by
 cases o with
 | nx δ=>exact fun σ' H' F' s k=>h σ' H' F' (st.trans s) k
 | rt d δ=>exact fun v σ' H' F' s k r=>h v σ' H' F' (st.trans s) k r
 | ro ds δ=>exact fun a xs σ' H' F' s k=>h a xs σ' H' F' (st.trans s) k
theorem Ed {env:Env} {x z:Str} {px pz pt pt2:Pos} {kt k2} {a b:aI} (hB:env.blockKind = .function) (hx:env.scope.names.lookup x = some .local) (hz:env.scope.names.lookup z = some .local) (hn:x≠z) (hl:px.line = pz.line) (ha:fq a = true) (hb:fq b = true) (hf:(foldedForSure 8 a && foldedForSure 8 b) = false) (hc:(constantsAlone 8 a && constantsAlone 8 b) = false) :
 swappedStores [.Tuple [.Name x px,.Name z pz] kt pt] (.Tuple [a,b] k2 pt2) env = pure (some [x,z]):=by
 have sa:∀ a:aI,fq a = true->(match a with | .Starred .. => true | _=>false) = false:=fun a h=>by
  cases a<;>first | rfl | (exact absurd h au)
 have k1:env.kindOf x = some .local:=hx;have k2:env.kindOf z = some .local:=hz;have e1:((env.blockKind != .function):Bool) = false:=by rw [hB];rfl
 have s1:=sa a ha;have s2:=sa b hb;have l1:(pz.line == px.line) = true:=by rw [hl];exact beq_self_eq_true _
 have n1:(z == x) = false:=by rw [beq_eq_false_iff_ne];exact hn.symm
 have d1:([x,z].eraseDups.length != [x,z].length) = false:=by
  rw [CU];simp [n1,CU]
 unfold swappedStores;simp only [ay,aB,jN,List.any_nil,e1,s1,s2,List.head?_cons,dg,CW,dw,List.filterMap_nil,k1,k2,Expr.pos,l1,beq_self_eq_true,cB,ite_true,d1,gq,yc,nW,hf,hc,vH,Bool.or_self,iX,dA,bne_self_eq_false,↓reduceIte,aO,pure_bind];refine (if_neg ?_).trans (if_neg ?_)
 . exact ne_true_of_eq_false (Bool.or_eq_false_iff.mpr ⟨s1,s2⟩)
 . rw [Bool.false_or];exact ne_true_of_eq_false d1
section
variable {X:Cx} {c:Ck} {cx:Cl} {k:Nat}
theorem PS.imp {s:de} {t t':TS} (h:PS X s t) (w:∀ E σ H,t' E σ H->t E σ H):PS X s t':=fun pins s σ H E I q=>h pins s σ H E I (w E σ H q)
theorem PSs.imp {s:List de} {t t':TS} (h:PSs X s t) (w:∀ E σ H,t' E σ H->t E σ H):PSs X s t':=fun pins s σ H E I q=>h pins s σ H E I (w E σ H q)
theorem wa:PSs X [] (tS X.K (eV cx .nil)):=PSs.imp IL fun E σ H zz=>by
 obtain ⟨G,F,δ,o,ok,ev,post⟩:=zz;simp only [eV] at ev;cases ev;exact post σ H F Step.refl ok
theorem sJ {s:S} {ss:Ss} {y:de} {ys:List de} (h1:PS X y (tS X.K (evS cx s))) (h2:PSs X ys (tS X.K (eV cx ss))):PSs X (y::ys) (tS X.K (eV cx (.cons s ss))):=PSs.imp (EO h1 h2) fun E σ H zz=>by
 obtain ⟨G,F,δ,o,ok,ev,post⟩:=zz;simp only [eV] at ev
 cases e:evS cx s δ with
 | none=>rw [e] at ev;cases ev
 | some o1 =>
   rw [e] at ev
   cases o1 with
   | nx δ1=>exact ⟨G,F,δ,.nx δ1,ok,e,fun σ' H' F' st ok'=>⟨G,F',δ1,o,ok',ev,post.step st⟩⟩
   | rt d δ1=>cases ev;exact ⟨G,F,δ,_,ok,e,post⟩
   | ro d δ1=>cases ev;exact ⟨G,F,δ,_,ok,e,post⟩
theorem GR {tg:Tg} {e:E} {δ:Loc} {o:Out} (ev:evS cx (.asg tg e) δ = some o):∃ d δ1 δ2,evE cx e δ = some (d,δ1)/\eC δ1 tg d = some δ2/\o = .nx δ2:=by
 simp only [evS,ah,ae] at ev;obtain ⟨⟨d,δ1⟩,e1,δ2,e2,e3⟩:=ev;cases e3;exact ⟨d,δ1,δ2,e1,e2,rfl⟩
theorem Nl {tg:Tg} {e:E} (n:(!bS e) = true) {E:Ends} {σ:L2.St} {H:Hp} (h:tS X.K (evS cx (.asg tg e)) E σ H):HS (tE X.K cx e) (gTg X.K tg) E σ H:=by
 obtain ⟨G,F,δ,o,ok,ev,post⟩:=h;obtain ⟨d,δ1,δ2,e1,e2,rfl⟩:=GR ev;exact ⟨G,F,δ,d,δ1,ok,e1,fun v H1 F1 st sm ok1 r=>lE ok1 (eR n r) e2 fun σ' ok2 _=>post σ' H1 F1 st ok2⟩
theorem wc (C:Cok X c cx k) (hm:(isNm t || !Jt y) = true) (h:oJ c tg t = true) (hy:ckE c e y = true) (n:(!bS e) = true) (hs:swapsWithSole [t] y pos.line X.env = pure false) (he:PE X y (tE X.K cx e)):PS X (.Assign [t] y pos) (tS X.K (evS cx (.asg tg e))):=by
 have hh:=cb hy
 have hw:swappedStores [t] y X.env = pure none:=by
  rcases qD h with ⟨_,_,rfl⟩ | ⟨_,_,_,rfl⟩
  . cases y<;>first | rfl | (exact absurd hh au)
  . cases y<;>first | rfl | (exact absurd hm au) | (exact absurd hh au)
 have h1:(assignEach [t] X.env).map (·.2) = [assign t X.env]:=by
  rcases qD h with ⟨_,_,rfl⟩ | ⟨_,_,_,rfl⟩<;>rfl
 exact PS.imp (ET he (me C h) hs hw h1) fun E σ H h=>Nl n h
theorem KY {α β:Type} {i j:α} {ds:List β} (h:[i,j].length = ds.length):∃ a b,ds = [a,b]:=by
 cases ds with
 | nil=>cases h
 | cons a ds =>
   cases ds with
   | nil=>cases h
   | cons b ds =>
     cases ds with
     | nil=>exact ⟨a,b,rfl⟩
     | cons c ds=>cases h
theorem Ep (C:Cok X c cx k) (hS:X.env.scope = c.sc) (hB:X.env.blockKind = .function) {i j:Nat} {es:Es} {t y:aI} {pos:Pos} (h:Oq c i j es t y = true) (hA:∀ a b,gH c es [a,b] = true->ie es = true->PA X [a,b] (tEs X.K cx es)):PS X (.Assign [t] y pos) (tS X.K (evS cx (.asg (.tp [i,j]) (.tup es)))):=by
 obtain ⟨_,_,_,rfl,h1⟩:=jA h;obtain ⟨_,_,rfl,h2⟩:=qX h1;obtain ⟨x,px,rfl,h3⟩:=uD h2;obtain ⟨z,pz,rfl,h4⟩:=uD h3;obtain ⟨_,_,_,rfl,h5⟩:=jA h4;obtain ⟨a,b,rfl,h6⟩:=qX h5;clear h h1 h2 h3 h4 h5;have h:=h6;clear h6;simp only [aa,decide_eq_true_eq,pJ] at h;obtain ⟨⟨⟨⟨⟨⟨⟨⟨⟨h1,h2⟩,h3⟩,h4⟩,h5⟩,h6⟩,h7⟩,h8⟩,h9⟩,h10⟩:=h;rw [<- C.hN] at h1 h2;rw [<- hS] at h3 h4;obtain ⟨_,_,_,c1,c2⟩:=eO h7;obtain ⟨_,_,_,c3,_⟩:=eO c2;refine PS.imp (LJ C.calm C.nd' h1 h2 (fun w=>h5 ?_) h3 h4 (hA a b h7 h8) (Ed hB h3 h4 h5 h6 (cb c1) (cb c3) h9 h10)) fun E σ H ⟨G,F,δ,o,ok,ev,post⟩=>?_
 . rw [w] at h1;exact aY (h1.symm.trans h2)
 obtain ⟨d,δ1,δ2,e1,e2,rfl⟩:=GR ev;simp only [evE,ah,ae] at e1;obtain ⟨⟨ds,δ3⟩,ea,e3⟩:=e1;split at e3
 . cases e3;unfold eC at e2;dsimp only at e2;split at e2
   . rename_i hh;cases e2;refine ⟨G,F,δ,ds,_,ok,ea,fun vs H1 F1 st sm ok1 r=>?_⟩;have r:=r.rl h8;obtain ⟨d1,d2,rfl⟩:=KY hh.1;have q:=hh.2;simp only [gq,yc,nW,aa,decide_eq_true_eq] at q;obtain ⟨v1,vs1,rfl,r1,q1⟩:=r;obtain ⟨v2,vs2,rfl,r2,q2⟩:=q1;obtain rfl:vs2 = []:=q2;exact ⟨v1,v2,rfl,post _ H1 F1 st ((ok1.set q.1 r1).set (by rw [cw];exact q.2) r2)⟩
   . cases e2
 . cases e3
noncomputable def tN (K:PySem.W.Frag) (cx:Cl) (e:E):TE:=fun σ H Q=>∃ G F δ ds δ',Ok K G F σ H δ/\evE cx e δ = some (.lst ds,δ') /\
 ∀ p xs H1 F1,Step G F H F1 H1->Ok K G F1 σ H1 δ'->H1 p = none->aK K H1 F1 ds xs->Q (.ref p) (upd H1 p (.lst xs))
theorem IV {K:PySem.W.Frag} {G:Gh} {F1:aw->Prop} {σ:L2.St} {H1:Hp} {δ1:Loc} {i:Nat} {p:aw} {ds:List D} {xs:List V} (ok1:Ok K G F1 σ H1 δ1) (hp:H1 p = none) (rl:aK K H1 F1 ds xs) (hi:i < δ1.length) :
 Ok K G (fun b=>F1 b\/b = p) (σ.set i (some (.ref p))) (upd H1 p (.lst xs)) (δ1.set i (.own ds))/\Step G F1 H1 (fun b=>F1 b\/b = p) (upd H1 p (.lst xs)):=by
 obtain ⟨o1,o2⟩:=ok1.enter hp xs;refine ⟨(o1.keep).own hi (.inr rfl) (ok1.free hp) bN (aK.step ok1.fd o2 ds xs rl) fun j s e ho z=>?_,o2⟩;obtain ⟨a,u,d,e1,_,_,e2,_⟩:=fF.ow (ok1.sl j _ e) ho;rw [z] at e1;cases e1;rw [hp] at e2;cases e2
theorem Er (C:Cok X c cx k) {i:Nat} {e:E} {t:Str} {y:aI} {pos p2:Pos} (h:jW c i t = true) (hy:ckE c e y = true) (nc:(!kW y) = true) (he:PE X y (tN X.K cx e)):PS X (.Assign [.Name t p2] y pos) (tS X.K (evS cx (.new i e))):=by
 obtain ⟨n1,n2,n3⟩:=C.to h;have nc':kW y = false:=by simpa using nc
 refine PS.imp (LH C.nd' n1 n2 he (rD (cb hy) nc' _ _ _) n3) fun E σ H zz=>?_;obtain ⟨G,F,δ,o,ok,ev,post⟩:=zz;simp only [evS,ah,ae] at ev;obtain ⟨⟨d,δ1⟩,e1,ev⟩:=ev
 cases d with
 | lst ds =>
   dsimp only at ev;split at ev
   . cases ev;refine ⟨G,F,δ,ds,δ1,ok,e1,fun p xs H1 F1 st ok1 hp rl=>?_⟩;obtain ⟨o1,o2⟩:=IV ok1 hp rl ‹_›;exact post _ _ _ (st.trans o2) o1
   . cases ev
 | _=>cases ev
theorem Ey (n:ie es = true) (h:PA X xs (tEs X.K cx es)):PE X (.List xs pos) (tN X.K cx (.lst es)):=by
 refine PE.imp (EY h) fun σ H Q h=>?_;obtain ⟨G,F,δ,d,δ',ok,ev,post⟩:=h;simp only [evE,ah,ae] at ev;obtain ⟨⟨ds,δ1⟩,ea,ev⟩:=ev;split at ev
 . rename_i hz;cases ev;refine ⟨G,F,δ,ds,δ1,ok,ea,fun vs H1 F1 st1 sm1 ok1 r1=>?_⟩;have r:=r1.rl n;exact ⟨by rw [r.length];exact hz,fun p hp=>post p vs H1 F1 st1 ok1 hp r⟩
 . cases ev
theorem BP (C:Cok X c cx k) {es:Es} {p pos:Pos} {y:aI} {ys:List aI} (hg:eU c (tL .toLst) = true) (hA:PA X (y::ys) (tEs X.K cx es)) (h:gH c es (y::ys) = true):PE X (.Call (.Name (tL .toLst) p) (y::ys) [] pos) (tN X.K cx (.blt .toLst es)):=by
 obtain ⟨g1,g2,g3⟩:=C.global hg;obtain ⟨e,es',rfl,h1,h2⟩:=eO h;have he:=cG (cb h1) ys X.env;have hpl:=jz (env:=X.env) (pos:=pos) h2;refine PE.imp (iK nI g1 (C.blt _ (by decide +kernel)) rfl hA g3 g2 he hpl) fun σ H Q h=>?_;obtain ⟨G,F,δ,ds,δ',ok,ev,post⟩:=h;simp only [evE] at ev;obtain ⟨zs,ea,hd⟩:=Aw ev;refine ⟨G,F,δ,zs,δ',ok,ea,fun vs H1 F1 st1 sm1 ok1 r1=>?_⟩;have r:=r1.bl;change oh zs = some (D.lst ds) at hd;unfold oh at hd;split at hd
 . cases hd;obtain ⟨v,rfl,r9⟩:=b1 r;obtain ⟨a,ws,rfl,h1,h2⟩:=r9.lst;exact ⟨a,ws,rfl,.inl h1.sq,fun l hl=>post l ws H1 F1 st1 ok1 hl h2⟩
 . cases hd;obtain ⟨v,rfl,r9⟩:=b1 r;obtain ⟨a,ws,rfl,h1,h2⟩:=r9.tup;exact ⟨a,ws,rfl,.inr h1,fun l hl=>post l ws H1 F1 st1 ok1 hl h2⟩
 . cases hd
theorem Ip {a:E} {lo hi:Eo} {y:aI} {l h:Option aI} {pos p2:Pos} (pc:(!bS a || (npO lo && npO hi)) = true) (ha:PE X y (tE X.K cx a)) (hl:PO X l (tO X.K cx lo)) (hh:PO X h (tO X.K cx hi)):PE X (.Subscript y (.Slice l h none p2) pos) (tN X.K cx (.sl a lo hi)):=by
 refine PE.imp (wH zE ha hl hh) fun σ H Q h=>?_;obtain ⟨G,F,δ,ds,δ',ok,ev,post⟩:=h;simp only [evE,ah,ae] at ev;obtain ⟨⟨x,δ1⟩,ea,⟨l',δ2⟩,eb,⟨h',δ3⟩,ec,d',hd,e⟩:=ev;cases e;dsimp only at eb ec hd post;refine ⟨G,F,δ,x,δ1,ok,ea,fun v H1 F1 st1 sm1 ok1 r1=>⟨G,F1,δ1,l',δ2,ok1,eb,fun H2 F2 st2 sm2 ok2=>⟨G,F2,δ2,h',δ3,ok2,ec,fun H3 F3 st3 sm3 ok3=>?_⟩⟩⟩;have st:=st2.trans st3
 have rb:dE X.K H3 F3 x v:=by
  refine (RelM.step ok1.fd st (fun z=>?_) r1).b;rw [z] at pc;have pc':(npO lo && npO hi) = true:=by simpa using pc
  rw [aa] at pc';exact (sm2 pc'.1).trans (sm3 pc'.2)
 unfold slD at hd;split at hd
 . cases hd;obtain ⟨p,xs,e1,h1,h2⟩:=rb.lst;exact ⟨p,xs,e1,h1.sq,fun q hq=>post q _ H3 F3 (st1.trans st) ok3 hq (h2.cut l' h')⟩
 . split at hd
   . cases hd
   . cases hd
 . split at hd
   . cases hd
   . cases hd
 . cases hd
end
section
variable {X:Cx} {c:Ck} {cx:Cl} {k:Nat}
theorem En {e:E} {y:aI} {pos:Pos} (n:(!bS e) = true) (he:PE X y (tE X.K cx e)):PS X (.Return (some y) pos) (tS X.K (evS cx (.ret e))):=PS.imp (LI he) fun E σ H zz=>by
 obtain ⟨G,F,δ,out,ok,ev,post⟩:=zz;simp only [evS,ah,ae] at ev;obtain ⟨⟨d,δ1⟩,e1,ev⟩:=ev;cases ev;exact ⟨G,F,δ,d,δ1,ok,e1,fun v H1 F1 st sm ok1 r=>post v σ H1 F1 st ok1 (eR n r)⟩
theorem Et {t:E} {a b:Ss} {y:aI} {ya yb:List de} {pos:Pos} (ht:PT X y (tT X.K cx t)) (ha:PSs X ya (tS X.K (eV cx a))) (hb:PSs X yb (tS X.K (eV cx b))):PS X (.If y ya yb pos) (tS X.K (evS cx (.ifs t a b))):=PS.imp (Og ht ha hb) fun E σ H zz=>by
 obtain ⟨G,F,δ,out,ok,ev,post⟩:=zz;simp only [evS,ah,ae] at ev;obtain ⟨⟨q,δ1⟩,e1,ev⟩:=ev;refine ⟨G,F,δ,q,δ1,ok,e1,fun H1 F1 st sm ok1=>?_⟩
 cases q with
 | true=>exact ka ⟨G,F1,δ1,out,ok1,ev,post.step st⟩
 | false=>exact kU ⟨G,F1,δ1,out,ok1,ev,post.step st⟩
theorem Eu (C:Cok X c cx k) {tg:Tg} {src:It} {body:Ss} {t it:aI} {ys:List de} {pos:Pos} (htg:oJ c tg t = true) (hI:PI X t it (tI X.K cx src)) (hset:∀ v,foldedSetIterable it X.env v = pure v) (hb:PSs X ys (tS X.K (eV cx body))):PS X (.For t it ys [] pos) (tS X.K (evS cx (.for_ tg src body))):=by
 have hp:PassesOwn (model X.prog X.w) X.A X.env X.xe:=by rw [C.xe];exact AU
 refine PS.imp (ES hp C.calm hI (me C htg) hb hset) fun E σ H zz=>?_;obtain ⟨G,F,δ,out,ok,ev,post⟩:=zz;simp only [evS,ah,ae] at ev;obtain ⟨⟨ds,δ1⟩,e1,ev⟩:=ev;dsimp only at ev;generalize ef:(fun (x:D) (δ0:Loc)=>match eC δ0 tg x with | some δ2=>eV cx body δ2 | none=>none) = f at ev;refine ⟨G,F,δ,ds,δ1,ok,e1,fun J H1 F1 st sm ok1 wk=>?_⟩;refine ⟨fun i m σ' H'=>∃ F' δ',m = ds.length - i/\i<=ds.length/\Step G F1 H1 F' H'/\Ok X.K G F' σ' H' δ'/\forL f (ds.drop i) δ' = some out,⟨_,F1,δ1,rfl,cu _,Step.refl,ok1,ev⟩,?_⟩;rintro i m σ' H' ⟨F',δ',rfl,hi,st',ok',ev'⟩;by_cases hlt:i < ds.length
 . right;obtain ⟨d,hd⟩:∃ d,ds[i]? = some d:=⟨ds[i],by simp [hlt]⟩;obtain ⟨go,yl⟩:=(wk _ F' H' st' ok'.fd i).1 d hd;refine ⟨go,?_⟩
   have edr:ds.drop i = d::ds.drop (i+1):=by
    rw [fX hlt];congr 1;rw [ax hlt] at hd;exact aY hd
   rw [edr] at ev';unfold forL at ev';refine ⟨fun σ2 H2=>∃ m',m' < ds.length - i/\∃ F2 δ2,m' = ds.length - (i+1)/\i+1<=ds.length/\Step G F1 H1 F2 H2/\Ok X.K G F2 σ2 H2 δ2/\forL f (ds.drop (i+1)) δ2 = some out,fun σ2 H2 z=>z,fun x H3 hy=>?_⟩;obtain ⟨e3,rx⟩:=yl x H3 hy;subst e3
   cases hf:f d δ' with
   | none=>rw [hf] at ev';cases ev'
   | some o1 =>
     have hf':=hf;rw [<- ef] at hf';dsimp only at hf'
     cases hs:eC δ' tg d with
     | none=>rw [hs] at hf';cases hf'
     | some δ2 =>
       rw [hs] at hf';refine lE ok' rx hs fun σ2 ok2 _=>⟨G,F',δ2,o1,ok2,hf',?_⟩;rw [hf] at ev'
       cases o1 with
       | nx δ3=>exact fun σ3 H4 F4 s4 k4=>⟨_,by omega,F4,δ3,rfl,hlt,st'.trans s4,k4,ev'⟩
       | rt d3 δ3 =>
         cases ev'
         exact fun v σ3 H4 F4 s4 k4 r4=>post v σ3 H4 F4 ((st.trans st').trans s4) k4 r4
       | ro d3 δ3 =>
         cases ev';exact fun a xs σ3 H4 F4 s4 k4=>post a xs σ3 H4 F4 ((st.trans st').trans s4) k4
 . left;have hi':i = ds.length:=by omega
   subst hi';refine ⟨(wk _ F' H' st' ok'.fd ds.length).2 rfl,?_⟩;rw [qt] at ev';cases ev';exact post σ' H' F' (st.trans st') ok'
end
end PP
end
section
namespace PP
open PySem PySem.Spec PyProof.Rows
open Builtin.SmallTypes (nextOf)
section
variable {P:aR} {w:bf} {A:ba} {E:af->ai->Prop} {s:ai}
theorem yM {i l:aw} {k:Nat} {xs:List af} {x:af} {Q:af->ai->Prop} (hit:s.heap.IsTupleIter i l k) (ht:s.heap.IsTuple l xs.toArray) (hx:xs[k]? = some x) (q:∀ h',h'.IsTupleIter i l (k+1)->dy i s.heap h'->Q x { s with heap:=h' }):wpAny (model P w) A (nextOf (.ref i)) Q E s:=by
 obtain ⟨o,ho,hc,hd⟩:=id hit;obtain ⟨ol,hol,_,nl,hdl⟩:=ht;have hx':xs.toArray[k]? = some x:=by simpa using hx
 unfold nextOf;refine ab (cO (name:=fV "__next__") hit.typeIs PySem.F.slot_tuple_iterator_next (bM PySem.F.slot_tuple_iterator_next hit.typeIs PySem.F.entry_tuple_iterator_next ?_ (PySem.F.args_tuple_iterator_next_1 _)));refine ab (m:=field (.ref i) 0) (cN ho hd (x:=.ref l) rfl ?_);refine (if_neg (show ¬ ((cT l == cn) = true) from au))▸?_;refine ab (m:=field (.ref i) 1) (cN ho hd (x:=.int k 0) rfl ?_);refine ab (m:=seqItems? (.ref l)) (dv hol hdl ?_);simp only [jO,hx'];have sb:=bJ s.heap i (kr (·.setIfInBounds 1 (rawInt ((k:Int)+1))));refine ab (eW ho hd (by simp) (ak ⟨x,rfl,ak (q _ ⟨_,fj _ ho (Obj.isFreed_of_fields (Hj hd _)),(Obj.cls_mapFields ..).trans hc,?_⟩ sb)⟩));rw [Hj hd];simp [rawInt]
theorem Ce {i l:aw} {k:Nat} {xs:List af} {Q:af->ai->Prop} (hh:A.handled = none) (hit:s.heap.IsTupleIter i l k) (ht:s.heap.IsTuple l xs.toArray) (hx:xs[k]? = none)
 (q:∀ h' e,Bb i s.heap h'->(∃ o,h'.get? e = some o/\o.cls = .type "StopIteration")->E (.ref e) { s with heap:=h' }):wpAny (model P w) A (nextOf (.ref i)) Q E s:=by
 obtain ⟨o,ho,hc,hd⟩:=id hit;obtain ⟨ol,hol,_,nl,hdl⟩:=ht;have hx':xs.toArray[k]? = none:=by simpa using hx
 unfold nextOf;refine ab (cO (name:=fV "__next__") hit.typeIs PySem.F.slot_tuple_iterator_next (bM PySem.F.slot_tuple_iterator_next hit.typeIs PySem.F.entry_tuple_iterator_next ?_ (PySem.F.args_tuple_iterator_next_1 _)));refine ab (m:=field (.ref i) 0) (cN ho hd (x:=.ref l) rfl ?_);refine (if_neg (show ¬ ((cT l == cn) = true) from au))▸?_;refine ab (m:=field (.ref i) 1) (cN ho hd (x:=.int k 0) rfl ?_);refine ab (m:=seqItems? (.ref l)) (dv hol hdl ?_);simp only [jO,hx'];refine ab (gQ (ab (eW ho hd (by simp) (ab (m:=newExc (.type "StopIteration") []) ?_))));simp only [newExc,newTuple];refine ab (bt ?_ (by size_fits));refine ab (m:=firstArgMember _ _) (gf (a:=cn) (by first | rfl | (simp only [firstArgMember];rfl)) ?_);refine bt ?_ (by size_fits);simp only [raiseNew];refine ab (wpAny_handled ?_)
 first | rw [show A.in1.handled = none from hh] | rw [hh]
 exact ab (ak (wpAny_throw (q _ _ (((bJ ..).extBut.push _).push _) ⟨_,aE _ rfl,rfl⟩)))
end
end PP
end
section
namespace PP
open PySem PySem.Spec L2 PyProof.Rows
open Builtin.SmallTypes (nextOf)
noncomputable def SqM (m:Bool) (K:PySem.W.Frag) (H:Hp) (a:aw) (xs:List V):Prop:=if m = true then SqL K H a xs else SqT K H a xs
noncomputable def OkM (m:Bool) (h:bK) (a:aw) (us:List af):Prop:=if m = true then h.IsList a us.toArray else h.IsTuple a us.toArray
noncomputable def ItO (m:Bool) (h:bK) (i l:aw) (k:Nat):Prop:=if m = true then h.IsListIter i l k else h.IsTupleIter i l k
theorem ItO.at {m:Bool} {h h':bK} {i l:aw} {k:Nat} (x:ItO m h i l k) (e:∀ o,h.get? i = some o->h'.get? i = some o):ItO m h' i l k:=by
 cases m
 . exact Heap.IsTupleIter.at x e
 . exact Heap.IsListIter.at x e
theorem ItO.obj {m:Bool} {h:bK} {i l:aw} {k:Nat} (x:ItO m h i l k):∃ o,h.get? i = some o/\∀ v,o.data≠.cell v:=by
 cases m <;>
 . obtain ⟨o,e,_,d⟩:=x;exact ⟨o,e,fun v z=>by rw [d] at z;cases z⟩
section
variable {X:Cx} {pins:List (aw × Obj)} {σ:L2.St} {H:Hp} {s:ai} {A:ba} {E:af->ai->Prop}
theorem okM (I:Inv X pins σ H s) (hq:SqM m X.K H l ys):∃ us,Vals ys us/\OkM m s.heap l us:=by
 cases m
 . obtain ⟨us,r,p,_⟩:=I.tuple hq;exact ⟨us,r,p⟩
 . obtain ⟨us,r,p,_⟩:=I.list hq;exact ⟨us,r,p.isList⟩
theorem zB (I:Inv X pins σ H s) (h1:SqM m X.K H l xs) (h2:SqM m X.K H l ys):xs = ys:=by
 cases m
 . exact I.tuple_inj h1 h2
 . exact I.list_inj h1 h2
theorem uR {m:Bool} {i l:aw} {k:Nat} {ys:List V} {x:V} {Q:af->ai->Prop} (I:Inv X pins σ H s) (hq:SqM m X.K H l ys) (hx:ys[k]? = some x) (it:ItO m s.heap i l k)
 (q:∀ u h',RelV x u->ItO m h' i l (k+1)->dy i s.heap h'->Q u { s with heap:=h' }):wpAny (model X.prog X.w) A (nextOf (.ref i)) Q E s:=by
 obtain ⟨us,r,ok⟩:=okM I hq;obtain ⟨u,hu,ru⟩:=r.get hx;cases m
 . exact yM it ok hu fun h' a b=>q u h' ru a b
 . exact wpAny_nextOf_list_item it ok (by simpa using hu) fun h' a b=>q u h' ru a b
theorem Ah {m:Bool} {i l:aw} {k:Nat} {ys:List V} {Q:af->ai->Prop} (hh:A.handled = none) (I:Inv X pins σ H s) (hq:SqM m X.K H l ys) (hx:ys.length<=k) (it:ItO m s.heap i l k)
 (q:∀ h' e,Bb i s.heap h'->(∃ o,h'.get? e = some o/\o.cls = .type "StopIteration")->E (.ref e) { s with heap:=h' }):wpAny (model X.prog X.w) A (nextOf (.ref i)) Q E s:=by
 obtain ⟨us,r,ok⟩:=okM I hq;have hl:us[k]? = none:=cS (by rw [<- r.length];exact hx);cases m
 . exact Ce hh it ok hl q
 . exact wpAny_nextOf_list_end hh it ok (by simpa using hl) q
structure Zp (h:bK) (m1 m2:Bool) (z TI TO i1 i2 l1 l2:aw) (f0:af) (k1 k2:Nat):Prop where
 hz:De h z TI TO f0
 ti:vA h TI (.ref i1) (.ref i2)
 to:∃ a b,vA h TO a b
 i1:ItO m1 h i1 l1 k1
 i2:ItO m2 h i2 l2 k2
structure Ap (z TI TO i1 i2:aw):Prop where
 a1:TI≠z
 a2:TO≠z
 a3:i1≠z
 a4:i2≠z
 a5:TI≠TO
 a6:TI≠i1
 a7:TI≠i2
 a8:TO≠i1
 a9:TO≠i2
 a10:i1≠i2
theorem fb {b:aw} {h':bK} (I:Inv X pins σ H s) (f:kq X pins H b) (k:∀ c o,c≠b->s.heap.get? c = some o->h'.get? c = some o):Inv X pins σ H { s with heap:=h' }:=I.turned (t':=s.toks) k f.1 f.2.1 f.2.2.2.1 f.2.2.2.2.1 f.2.2.2.2.2
theorem Dg {m1 m2:Bool} {z TI TO i1 i2 l1 l2:aw} {k:Nat} {xs ys:List V} {x y:V} {Q:af->ai->Prop} (D:Ap z TI TO i1 i2) (I:Inv X pins σ H s) (hf:∀ b∈[z,TI,TO,i1,i2],kq X pins H b) (Z:Zp s.heap m1 m2 z TI TO i1 i2 l1 l2 .none k k)
 (q1:SqM m1 X.K H l1 xs) (q2:SqM m2 X.K H l2 ys) (hx:xs[k]? = some x) (hy:ys[k]? = some y)
 (hQ:∀ T h',H T = none->(∀ b∈[z,TI,TO,i1,i2],T≠b)->Inv X pins σ (upd H T (.tup [x,y])) { s with heap:=h' }->Zp h' m1 m2 z TI TO i1 i2 l1 l2 (rawInt T) (k+1) (k+1)->Q (.ref T) { s with heap:=h' }) :
 wpAny (model X.prog X.w) A (eQ.«zip.__next__» ⟨[.ref z],[]⟩) (fun fin s'=>∃ v,fin = .done (.ret v)/\Q v s') E s:=by
 obtain ⟨hz,ti,⟨a,b,to⟩,h1,h2⟩:=Z;have fz:=hf z (by simp);have fT:=hf TO (by simp);have f1:=hf i1 (by simp);have f2:=hf i2 (by simp);refine ab (m:=field (.ref z) 2) (cN hz rfl (x:=.bool false) rfl ?_);refine ab (m:=field (.ref z) 3) (cN hz rfl (x:=.ref TI) rfl ?_);refine ab (dv ti rfl ?_);refine ab (m:=cU (.ref z)) ?_;unfold cU;refine ab (cN hz rfl (x:=.none) rfl (ak ?_));simp only [if_true];refine ab (gQ (ab (cN hz rfl (x:=.ref TO) rfl (ab (gO hz (by simp) fun g1 y1 s1=>ab ?_)))));replace y1:De g1 z TI TO .ellipsis:=y1;have I1:=fb I fz fun c o n e=>s1.extBut c o n e;simp only [Hr,JM,ff,List.forIn_nil];refine ab (ab (qo (ab (m:=nextOf (.ref i1)) (uR I1 q1 hx (h1.at fun o e=>s1.extBut _ o D.a3 e) fun u g2 ru j1 s2=>ak ?_))));have I2:=fb I1 f1 fun c o n e=>s2.extBut c o n e;have to2:vA g2 TO a b:=s2.extBut _ _ D.a8 (s1.extBut _ _ D.a2 to);refine ab (dv to2 rfl (ab (oQ to2 fun g3 to3 s3=>ab (JH (ak ?_)))));replace to3:vA g3 TO u b:=to3;have I3:=fb I2 fT fun c o n e=>s3.extBut c o n e;refine ab (ab (qo (ab (m:=nextOf (.ref i2)) (uR I3 q2 hy (((h2.at fun o e=>s1.extBut _ o D.a4 e).at fun o e=>s2.extBut _ o D.a10.symm e).at fun o e=>s3.extBut _ o D.a9.symm e) fun v g4 rv j2 s4=>ak ?_))));have I4:=fb I3 f2 fun c o n e=>s4.extBut c o n e;have to4:vA g4 TO u b:=s4.extBut _ _ D.a9 to3;refine ab (dv to4 rfl (ab (oQ to4 fun g5 to5 s5=>ab (JH (ak (ak ?_))))));replace to5:vA g5 TO u v:=to5;have I5:=fb I4 fT fun c o n e=>s5.extBut c o n e;refine ab (dv to5 rfl (ab (wpAny_newTuple ?_)));have hT:H g5.objs.size = none:=I5.hok.fresh (aA _);have z5:De g5 z TI TO .ellipsis:=s5.extBut _ _ D.a2.symm (s4.extBut _ _ D.a4.symm (s3.extBut _ _ D.a2.symm (s2.extBut _ _ D.a3.symm y1)));have ti5:vA g5 TI (.ref i1) (.ref i2):=s5.extBut _ _ D.a5 (s4.extBut _ _ D.a7 (s3.extBut _ _ D.a5 (s2.extBut _ _ D.a6 (s1.extBut _ _ D.a1 ti))));have k1:ItO m1 g5 i1 l1 (k+1):=((j1.at fun o e=>s3.extBut _ o D.a8.symm e).at fun o e=>s4.extBut _ o D.a10 e).at fun o e=>s5.extBut _ o D.a8.symm e;have k2:ItO m2 g5 i2 l2 (k+1):=j2.at fun o e=>s5.extBut _ o D.a9.symm e;have Tz:g5.objs.size≠z:=eY (az z5)
 have Ts:∀ b∈[z,TI,TO,i1,i2],g5.objs.size≠b:=fun b hb=>by
  obtain ⟨_,e1,_⟩:=k1.obj;obtain ⟨_,e2,_⟩:=k2.obj;simp only [aD,cz,or_false] at hb;rcases hb with rfl | rfl | rfl | rfl | rfl
  . exact Tz
  . exact eY (az ti5)
  . exact eY (az to5)
  . exact eY (az e1)
  . exact eY (az e2)
 have I6:Inv X pins σ (upd H g5.objs.size (.tup [x,y])) { s with heap:=g5.push { cls:=.type "tuple",data:=.seq #[u,v] } } :=
  I5.laid (t':=s.toks) (fun b u e=>ag _ e) (aA _) ⟨by show 2<=sizeLine;decide,[u,v],.cons ru (.cons rv .nil),⟨_,aE _ rfl,rfl,_,rfl⟩⟩
 have fz6:kq X pins (upd H g5.objs.size (.tup [x,y])) z:=⟨by rw [bA Tz.symm];exact fz.1,fz.2⟩;refine ab (m:=jn (.ref z) (.ref g5.objs.size)) ?_;unfold jn;have z6:De (g5.push { cls:=.type "tuple",data:=.seq #[u,v] }) z TI TO .ellipsis:=ag _ z5;refine ab (gO z6 (by simp) fun g7 z7 s7=>?_);replace z7:De g7 z TI TO (rawInt g5.objs.size):=z7;refine gO z7 (by simp) fun g8 z8 s8=>?_;replace z8:De g8 z TI TO (rawInt g5.objs.size):=z8;have up:∀ c o,c≠z->g5.get? c = some o->g8.get? c = some o:=fun c o n e=>s8.extBut _ _ n (s7.extBut _ _ n (ag _ e));have I8:=fb (fb I6 fz6 fun c o n e=>s7.extBut c o n e) fz6 fun c o n e=>s8.extBut c o n e;exact ak ⟨_,rfl,hQ g5.objs.size g8 hT Ts I8 ⟨z8,up _ _ D.a1 ti5,⟨_,_,up _ _ D.a2 to5⟩,k1.at fun o e=>up _ o D.a3 e,k2.at fun o e=>up _ o D.a4 e⟩⟩
theorem Df {m1 m2:Bool} {z TI TO i1 i2 l1 l2:aw} {k:Nat} {xs ys:List V} {Q:PySem.Fin->ai->Prop} (hh:A.handled = none) (D:Ap z TI TO i1 i2) (I:Inv X pins σ H s) (hf:∀ b∈[z,TI,TO,i1,i2],kq X pins H b) (Z:Zp s.heap m1 m2 z TI TO i1 i2 l1 l2 .none k k)
 (q1:SqM m1 X.K H l1 xs) (q2:SqM m2 X.K H l2 ys) (hend:xs.length<=k\/ys.length<=k)
 (hE:∀ h' e,Inv X pins σ H { s with heap:=h' }->(∃ o,h'.get? e = some o/\o.cls = .type "StopIteration")->E (.ref e) { s with heap:=h' }) :
 wpAny (model X.prog X.w) A (eQ.«zip.__next__» ⟨[.ref z],[]⟩) Q E s:=by
 obtain ⟨hz,ti,⟨a,b,to⟩,h1,h2⟩:=Z;have fz:=hf z (by simp);have fT:=hf TO (by simp);have f1:=hf i1 (by simp);have f2:=hf i2 (by simp);refine ab (m:=field (.ref z) 2) (cN hz rfl (x:=.bool false) rfl ?_);refine ab (m:=field (.ref z) 3) (cN hz rfl (x:=.ref TI) rfl ?_);refine ab (dv ti rfl ?_);refine ab (m:=cU (.ref z)) ?_;unfold cU;refine ab (cN hz rfl (x:=.none) rfl (ak ?_));simp only [if_true];refine ab (gQ (ab (cN hz rfl (x:=.ref TO) rfl (ab (gO hz (by simp) fun g1 y1 s1=>ab ?_)))));replace y1:De g1 z TI TO .ellipsis:=y1;have I1:=fb I fz fun c o n e=>s1.extBut c o n e;simp only [Hr,JM,ff,List.forIn_nil];have j1:ItO m1 g1 i1 l1 k:=h1.at fun o e=>s1.extBut _ o D.a3 e
 have last:∀ {g:bK} {e:aw} (Ig:Inv X pins σ H { s with heap:=g }) (zg:De g z TI TO .ellipsis) (he:∃ o,g.get? e = some o/\o.cls = .type "StopIteration"),
  wpAny (model X.prog X.w) A (setField (.ref z) 0 .none) (fun _ s'=>E (.ref e) s') E { s with heap:=g }:=fun {g e} Ig zg he=>by
  obtain ⟨o,ho,hc⟩:=he;have ez:e≠z:=fun x=>by subst x;rw [zg] at ho;cases ho;simp at hc
  refine gO zg (by simp) fun g' _ s'=>?_;have I':=fb (h':=g') Ig fz fun c o n e=>s'.extBut c o n e;exact hE g' e I' ⟨o,s'.extBut _ _ ez ho,hc⟩
 refine ab (ab (qo (ab (m:=nextOf (.ref i1)) ?_)));by_cases hx:xs.length<=k
 . refine Ah hh I1 q1 hx j1 fun g2 e x2 he=>?_;have I2:=fb (h':=g2) I1 f1 fun c o n e=>x2 c o n e;exact last I2 (x2 _ _ D.a3.symm y1) he
 . obtain ⟨x,ex⟩:∃ x,xs[k]? = some x:=⟨xs[k],ax (by omega)⟩;refine uR I1 q1 ex j1 fun u g2 ru j1' s2=>ak ?_;have I2:=fb I1 f1 fun c o n e=>s2.extBut c o n e;have to2:vA g2 TO a b:=s2.extBut _ _ D.a8 (s1.extBut _ _ D.a2 to);refine ab (dv to2 rfl (ab (oQ to2 fun g3 to3 s3=>ab (JH (ak ?_)))));have I3:=fb I2 fT fun c o n e=>s3.extBut c o n e;refine ab (ab (qo (ab (m:=nextOf (.ref i2)) ?_)));refine Ah hh I3 q2 (by omega) (((h2.at fun o e=>s1.extBut _ o D.a4 e).at fun o e=>s2.extBut _ o D.a10.symm e).at fun o e=>s3.extBut _ o D.a9.symm e) fun g4 e x4 he=>?_;have I4:=fb (h':=g4) I3 f2 fun c o n e=>x4 c o n e;exact last I4 (x4 _ _ D.a4.symm (s3.extBut _ _ D.a2.symm (s2.extBut _ _ D.a3.symm y1))) he
end
end PP
end
section
namespace PP
open PySem PySem.Spec L2 PyProof.Rows
noncomputable def Itz (K:PySem.W.Frag) (m1 m2:Bool) (l1 l2:aw):L2.It :=
 ⟨fun i H=>∃ xs ys x y,SqM m1 K H l1 xs/\SqM m2 K H l2 ys/\xs[i]? = some x/\ys[i]? = some y,
   fun i H v H'=>∃ T x y,v = .ref T/\H T = none/\H' = upd H T (.tup [x,y])/\(∀ xs,SqM m1 K H l1 xs->xs[i]? = some x)/\∀ ys,SqM m2 K H l2 ys->ys[i]? = some y,
   fun i H=>∃ xs ys,SqM m1 K H l1 xs/\SqM m2 K H l2 ys/\(xs.length<=i\/ys.length<=i)⟩
theorem DW {P:aR} {w:bf} {K:PySem.W.Frag} {elts:List aI} {k0:Nat} {pos:Pos} {m1 m2:Bool} {z TI TO i1 i2 l1 l2:aw} (D:Ap z TI TO i1 i2) :
 Turn P w K (.Tuple elts k0 pos) (Itz K m1 m2 l1 l2) [z,TI,TO,i1,i2] z (fun i h=>Zp h m1 m2 z TI TO i1 i2 l1 l2 .none i i) where
 mem:=by simp
 obj:=fun i h st b hb=>by
  obtain ⟨hz,ti,⟨a,c,to⟩,h1,h2⟩:=st;simp only [aD,cz,or_false] at hb;rcases hb with rfl | rfl | rfl | rfl | rfl
  . exact ⟨_,hz,fun v z=>by cases z⟩
  . exact ⟨_,ti,fun v z=>by cases z⟩
  . exact ⟨_,to,fun v z=>by cases z⟩
  . exact h1.obj
  . exact h2.obj
 keep:=fun i h h' st k=>by
  obtain ⟨hz,ti,⟨a,c,to⟩,h1,h2⟩:=st;exact ⟨k z (by simp) _ hz,k TI (by simp) _ ti,⟨a,c,k TO (by simp) _ to⟩,h1.at fun o e=>k _ (by simp) o e,h2.at fun o e=>k _ (by simp) o e⟩
 item:=by
  intro X hP hw hK hc i pins s σ H E I hf st hg;subst hP hw hK;obtain ⟨xs,ys,x,y,q1,q2,hx,hy⟩:=hg;have hT:s.TypeIs (.ref z) "zip":=⟨_,st.hz,rfl⟩;unfold pyNext;refine ab (qr (cO (name:=fV "__next__") hT PySem.F.slot_zip_next (bM PySem.F.slot_zip_next hT PySem.F.entry_zip_next (Dg D I hf st q1 q2 hx hy fun T h' nT nb I' Z'=>ak ⟨.ref T,rfl,?_⟩) (PySem.F.args_zip_next_1 _))));refine wpAny_letOwnedTupleGo_zip Z'.hz fun h2 z2 s2=>?_;have hn:∀ b∈[z,TI,TO,i1,i2],upd H T (.tup [x,y]) b = none:=fun b hb=>by rw [bA (nb b hb).symm];exact (hf b hb).1
  have I2:=fb (h':=h2) I' ⟨hn z (by simp),(hf z (by simp)).2⟩ fun c o n e=>s2.extBut c o n e;obtain ⟨_,ti,⟨a,c,to⟩,h1,h2'⟩:=Z'
  exact ⟨.ref T,upd H T (.tup [x,y]),I2,rfl,⟨T,x,y,rfl,nT,rfl,fun xs' h=>by rw [zB I h q1];exact hx,fun ys' h=>by rw [zB I h q2];exact hy⟩,
   ⟨z2,s2.extBut _ _ D.a1 ti,⟨a,c,s2.extBut _ _ D.a2 to⟩,h1.at fun o e=>s2.extBut _ o D.a3 e,h2'.at fun o e=>s2.extBut _ o D.a4 e⟩,hn⟩
 done:=by
  intro X hP hw hK hc i pins s σ H E I hf st hg;subst hP hw hK;obtain ⟨xs,ys,q1,q2,he⟩:=hg;have hT:s.TypeIs (.ref z) "zip":=⟨_,st.hz,rfl⟩;unfold pyNext;refine ab (qr (cO (name:=fV "__next__") hT PySem.F.slot_zip_next (bM PySem.F.slot_zip_next hT PySem.F.entry_zip_next (Df (I.ok.hd hc) D I hf st q1 q2 he fun h' e I' he=>?_) (PySem.F.args_zip_next_1 _))));obtain ⟨o,ho,hc⟩:=he;exact ab (lQ (T:="StopIteration") (b:=true) ⟨o,ho,hc⟩ isSubtype_stop (ak ⟨rfl,I'⟩))
 self:=fun _ _ _ _ _ st h=>wpAny_pyIter_zip st.hz h
noncomputable def itN (m:Bool):String:=if m = true then "list_iterator" else "tuple_iterator"
noncomputable def jf (m:Bool) (l:aw):Obj:={ cls:=.type (itN m),data:=.fields #[.ref l,.int 0 0] }
theorem iterM {E:af->ai->Prop} (ok:OkM m s.heap l us) (h:Q (.ref s.heap.objs.size) { s with heap:=s.heap.push (jf m l) }):wpAny (model prog w) A (pyIter (.ref l)) Q E s:=by
 cases m
 . exact Nu (show s.heap.IsTuple l us.toArray from ok) h
 . exact ir (show s.heap.IsList l us.toArray from ok) h
theorem OkM.push (ok:OkM m h l us) (o:Obj):OkM m (h.push o) l us:=by
 cases m
 . exact Heap.IsTuple.at (show h.IsTuple l us.toArray from ok) fun o e=>ag _ e
 . exact Heap.IsList.push ok o
noncomputable def zH (h:bK) (m1 m2:Bool) (l1 l2:aw):bK:=((((h.push (jf m1 l1)).push (jf m2 l2)).push { cls:=.type "tuple",data:=.seq #[.ref h.objs.size,.ref (h.objs.size+1)] }).push { cls:=.type "tuple",data:=.seq #[.none,.none] }).push { cls:=.type "zip",data:=.fields #[.none,.bool false,.bool false,.ref (h.objs.size+2),.ref (h.objs.size+3)] }
theorem Cg (l1 l2:aw) (us vs:List af):Meets (eQ.«zip.__new__» ⟨[.type "zip",.ref l1,.ref l2],[]⟩) (fun _ R s=>OkM m1 s.heap l1 us/\OkM m2 s.heap l2 vs/\R (.ok (.ret (.ref (s.heap.objs.size+4)))) { s with heap:=zH s.heap m1 m2 l1 l2 }) :=
 .of_wp fun prog w A R s h=>by
  obtain ⟨hp,g,d,tk,os⟩:=s;obtain ⟨o1,o2,h⟩:=h;have hsub:=sub_zip;have L1:OkM m1 (Shared.heap ⟨hp,g,d,tk,os⟩) l1 us:=o1;have L2:OkM m2 (Shared.heap ⟨hp.push (jf m1 l1),g,d,tk,os⟩) l2 vs:=OkM.push o2 _
  wp_walk using iterM L1,iterM L2
  refine ⟨_,rfl,?_⟩;unfold zH at h;simp only [bC];exact h
section
variable {prog:aR} {w:bf} {A:ba} {E:af->ai->Prop} {s:ai}
theorem Cy (o1:OkM m1 s.heap l1 us) (o2:OkM m2 s.heap l2 vs)
 (h:∀ h',Zp h' m1 m2 (s.heap.objs.size+4) (s.heap.objs.size+2) (s.heap.objs.size+3) s.heap.objs.size (s.heap.objs.size+1) l1 l2 .none 0 0->(∀ c o,s.heap.get? c = some o->h'.get? c = some o)->Q (.ref (s.heap.objs.size+4)) { s with heap:=h' }) :
 wpAny (model prog w) A (call (.type "zip") [.ref l1,.ref l2]) Q E s:=by
 refine callType_new PySem.F.called_zip (by decide) (PySem.F.typeCall_zip_2 _ _) (PySem.F.newCall_zip_2 _ _) (fun obj=>PySem.F.args_object_init_3 obj _ _) PySem.F.entry_zip_new (Cg (m1:=m1) (m2:=m2) l1 l2 us vs) ⟨o1,o2,?_⟩;have up:∀ {h:bK} {c:aw} {o o':Obj},h.get? c = some o->(h.push o').get? c = some o:=fun e=>ag _ e;have at_:∀ {h:bK} {o:Obj} {n:aw},h.objs.size = n->o.isFreed = false->(h.push o).get? n = some o:=fun e f=>by rw [<- e];exact aE _ f
 have z1:(s.heap.push (jf m1 l1)).objs.size = s.heap.objs.size+1:=bC ..;have z2:((s.heap.push (jf m1 l1)).push (jf m2 l2)).objs.size = s.heap.objs.size+2:=by rw [bC,z1]
 have z3:(((s.heap.push (jf m1 l1)).push (jf m2 l2)).push { cls:=.type "tuple",data:=.seq #[.ref s.heap.objs.size,.ref (s.heap.objs.size+1)] }).objs.size = s.heap.objs.size+3:=by rw [bC,z2]
 have z4:((((s.heap.push (jf m1 l1)).push (jf m2 l2)).push { cls:=.type "tuple",data:=.seq #[.ref s.heap.objs.size,.ref (s.heap.objs.size+1)] }).push { cls:=.type "tuple",data:=.seq #[.none,.none] }).objs.size = s.heap.objs.size+4:=by rw [bC,z3]
 have g5:(zH s.heap m1 m2 l1 l2).get? (s.heap.objs.size+4) = some _:=at_ z4 rfl;have g4:(zH s.heap m1 m2 l1 l2).get? (s.heap.objs.size+3) = some _:=up (at_ z3 rfl);have g3:(zH s.heap m1 m2 l1 l2).get? (s.heap.objs.size+2) = some _:=up (up (at_ z2 rfl));have g2:(zH s.heap m1 m2 l1 l2).get? (s.heap.objs.size+1) = some (jf m2 l2):=up (up (up (at_ z1 rfl)));have g1:(zH s.heap m1 m2 l1 l2).get? s.heap.objs.size = some (jf m1 l1):=up (up (up (up (at_ rfl rfl))));have it:∀ {m:Bool} {i l:aw} {h:bK},h.get? i = some (jf m l)->ItO m h i l 0:=fun {m i l h} e=>by cases m<;>exact ⟨_,e,rfl,rfl⟩
 exact ⟨⟨_,g5,rfl⟩,h _ ⟨g5,g3,⟨_,_,g4⟩,it g1,it g2⟩ fun c o e=>up (up (up (up (up e))))⟩
end
theorem Mw (h:a≠b):(show aw from a)≠(show aw from b):=h
noncomputable def Qa (K:PySem.W.Frag) (ta:TA):TI:=fun σ H R=>ta σ H fun vs H1=>∃ m1 m2 l1 l2 xs ys,vs = [.ref l1,.ref l2]/\SqM m1 K H1 l1 xs/\SqM m2 K H1 l2 ys/\R (Itz K m1 m2 l1 l2) H1
theorem LL {X:Cx} {elts:List aI} {k0:Nat} {tp:Pos} {a b:aI} {ta:TA} {p pos:Pos} (hg:Gl X "zip") (hm:X.mg "zip" = none) (ha:PA X [a,b] ta) (hs:starEach [a,b] X.env = (false,eval a X.env)::starEach [b] X.env) (hpl:(backTo pos (starEach [b] X.env)).any (·.1) = false) :
 PI X (.Tuple elts k0 tp) (.Call (.Name "zip" p) [a,b] [] pos) (Qa X.K ta):=by
 intro pins s σ H R I h;refine Call_ (rk I hg hm boot_zip (hV (thn (ha pos pins s σ H _ I h) fun us s1 ⟨vs,H1,I1,r1,q1⟩=>?_) hs hpl));obtain ⟨m1,m2,l1,l2,xs,ys,rfl,s1',s2',q⟩:=q1;obtain ⟨u,rr,e,r,rr1⟩:∃ u rr,us = u::rr/\RelV (.ref l1) u/\Vals [.ref l2] rr:=by cases r1 with | cons r rr=>exact ⟨_,_,rfl,r,rr⟩
 obtain ⟨v,rfl,r2⟩:=vals1 rr1;subst e;cases r;cases r2;obtain ⟨us1,_,o1⟩:=okM I1 s1';obtain ⟨us2,_,o2⟩:=okM I1 s2';refine Cy o1 o2 fun h' Z k=>?_;refine wpAny_pyIter_zip Z.hz ?_
 have D:Ap (s1.heap.objs.size+4) (s1.heap.objs.size+2) (s1.heap.objs.size+3) s1.heap.objs.size (s1.heap.objs.size+1):=by
  constructor<;>(refine Mw ?_;lia)
 refine ⟨_,_,_,_,H1,rfl,I1.kept (t':=s1.toks) k,DW D,Z,fun b hb=>?_,q⟩
 have hle:s1.heap.objs.size<=b:=by
  simp only [aD,cz,or_false] at hb;rcases hb with rfl | rfl | rfl | rfl | rfl<;>lia
 exact I1.fpOk hle (I1.hok.fresh hle)
end PP
end
section
namespace PP
open PySem L2 PyProof.Rows
variable [Tbs]
section
variable {X:Cx} {c:Ck} {cx:Cl} {k:Nat}
noncomputable def kM:D->Bool
 | .lst _=>true
 | _=>false
theorem qb {K:PySem.W.Frag} {H:Hp} {F:aw->Prop} {d:D} {ds:List D} {v:V} (e:EC d = some ds) (r:Rel K H F d v):∃ a us,v = .ref a/\SqM (kM d) K H a us/\aK K H F ds us:=by
 cases d with
 | lst l =>
   cases e;obtain ⟨a,us,e1,h1,h2⟩:=dE.lst (.inl r)
   exact ⟨a,us,e1,h1.sq,h2⟩
 | tup l =>
   cases e;obtain ⟨a,us,e1,h1,h2⟩:=dE.tup (.inl r)
   exact ⟨a,us,e1,h1,h2⟩
 | _=>cases e
theorem BN (C:Cok X c cx k) {tg:Tg} {es:Es} {body:Ss} {t a b:aI} {ys:List de} {p cp pos:Pos} (ht:Jt t = true) (htg:oJ c tg t = true) (hg:Gl X "zip") (hm:X.mg "zip" = none) (hA:PA X [a,b] (tEs X.K cx es)) (hc:gH c es [a,b] = true) (n:ie es = true) (hb:PSs X ys (tS X.K (eV cx body))) :
 PS X (.For t (.Call (.Name "zip" p) [a,b] [] cp) ys [] pos) (tS X.K (evS cx (.forZ tg es body))):=by
 have hp:PassesOwn (model X.prog X.w) X.A X.env X.xe:=by rw [C.xe];exact AU
 have tt:∃ es n q,t = .Tuple es n q:=by
  rcases qD htg with ⟨_,_,rfl⟩ | h
  . cases ht
  . exact h
 obtain ⟨elts,k0,tp,rfl⟩:=tt;obtain ⟨_,_,_,c1,c2⟩:=eO hc;refine PS.imp (ES hp C.calm (LL hg hm hA (cG (cb c1) _ _) (jz c2)) (me C htg) hb (fun v=>rfl)) fun E σ H zz=>?_;obtain ⟨G,F,δ,out,ok,ev,post⟩:=zz;simp only [evS,ah,ae] at ev;obtain ⟨⟨ds,δ1⟩,e1,ev⟩:=ev;dsimp only at ev;split at ev
 . rename_i x y;split at ev
   . rename_i xs ys' ex ey;generalize ef:(fun (x:D) (δ0:Loc)=>match eC δ0 tg x with | some δ2=>eV cx body δ2 | none=>none) = f at ev;refine ⟨G,F,δ,[x,y],δ1,ok,e1,fun vs H1 F1 st sm ok1 r1=>?_⟩;have r:=r1.rl n;unfold aK at r;obtain ⟨v1,_,rfl,q1,r⟩:=r;unfold aK at r;obtain ⟨v2,_,rfl,q2,r⟩:=r;unfold aK at r;subst r;obtain ⟨l1,us1,rfl,s1,_⟩:=qb ex q1;obtain ⟨l2,us2,rfl,s2,_⟩:=qb ey q2;refine ⟨kM x,kM y,l1,l2,us1,us2,rfl,s1,s2,?_⟩;have zl:(kJ xs ys').length = min xs.length ys'.length:=by unfold kJ;rw [aj,JO]
     refine ⟨fun i m σ' H'=>∃ F' δ',m = (kJ xs ys').length - i/\i<=(kJ xs ys').length/\Step G F1 H1 F' H'/\Ok X.K G F' σ' H' δ'/\forL f ((kJ xs ys').drop i) δ' = some out,⟨_,F1,δ1,rfl,cu _,Step.refl,ok1,ev⟩,?_⟩;rintro i m σ' H' ⟨F',δ',rfl,hi,st',ok',ev'⟩;obtain ⟨_,w1,ea,t1,rl1⟩:=qb ex (Rel.step ok1.fd st' _ _ q1);cases ea;obtain ⟨_,w2,ea,t2,rl2⟩:=qb ey (Rel.step ok1.fd st' _ _ q2);cases ea;have ll1:=rl1.length;have ll2:=rl2.length;by_cases hlt:i < (kJ xs ys').length
     . right;have h1:i < xs.length:=by lia
       have h2:i < ys'.length:=by lia
       obtain ⟨a1,ha1,ra1⟩:=rl1.get (ax h1);obtain ⟨a2,ha2,ra2⟩:=rl2.get (ax h2)
       have edr:(kJ xs ys').drop i = .tup [xs[i],ys'[i]]::(kJ xs ys').drop (i+1):=by
        have e0:(kJ xs ys')[i]? = some (.tup [xs[i],ys'[i]]):=by
         unfold kJ;rw [bj,(List.getElem?_zip_eq_some (z:=(xs[i],ys'[i]))).mpr ⟨ax h1,ax h2⟩];rfl
        rw [fX hlt];congr 1;rw [ax hlt] at e0;exact aY e0
       rw [edr] at ev';unfold forL at ev';refine ⟨⟨w1,w2,a1,a2,t1,t2,ha1,ha2⟩,fun σ2 H2=>∃ m',m' < (kJ xs ys').length - i/\∃ F2 δ2,m' = (kJ xs ys').length - (i+1)/\i+1<=(kJ xs ys').length/\Step G F1 H1 F2 H2/\Ok X.K G F2 σ2 H2 δ2/\forL f ((kJ xs ys').drop (i+1)) δ2 = some out,fun σ2 H2 z=>z,fun v H3 hy=>?_⟩;obtain ⟨T,b1,b2,rfl,nT,rfl,y1,y2⟩:=hy;have eb1:b1 = a1:=aY ((y1 _ t1).symm.trans ha1);have eb2:b2 = a2:=aY ((y2 _ t2).symm.trans ha2);subst eb1 eb2;have rx:=jU ok' nT (aK.cons ra1 (aK.cons ra2 aK.nil));have sn:=cg nT (.tup [b1,b2]);have ok3:=ok'.same' sn;have st3:=st'.trans (Step.of_same sn)
       cases hf:f (.tup [xs[i],ys'[i]]) δ' with
       | none=>rw [hf] at ev';cases ev'
       | some o1 =>
         have hf':=hf;rw [<- ef] at hf';dsimp only at hf'
         cases hs:eC δ' tg (.tup [xs[i],ys'[i]]) with
         | none=>rw [hs] at hf';cases hf'
         | some δ2 =>
           rw [hs] at hf';refine lE ok3 rx hs fun σ2 ok2 _=>⟨G,F',δ2,o1,ok2,hf',?_⟩;rw [hf] at ev'
           cases o1 with
           | nx δ3=>exact fun σ3 H4 F4 s4 k4=>⟨_,by lia,F4,δ3,rfl,hlt,st3.trans s4,k4,ev'⟩
           | rt d3 δ3 =>
             cases ev'
             exact fun v σ3 H4 F4 s4 k4 r4=>post v σ3 H4 F4 ((st.trans st3).trans s4) k4 r4
           | ro d3 δ3 =>
             cases ev';exact fun a xs σ3 H4 F4 s4 k4=>post a xs σ3 H4 F4 ((st.trans st3).trans s4) k4
     . left;have hi':i = (kJ xs ys').length:=by lia
       refine ⟨⟨w1,w2,t1,t2,by lia⟩,?_⟩;rw [hi',qt] at ev';cases ev';exact post σ' H' F' (st.trans st') ok'
   . cases ev
 . cases ev
end
section
variable {X:Cx} {c:Ck} {cx:Cl} {k:Nat}
theorem OO (h:ckE c e z = true):((backTo cp (starEach [z] env)).all (fun x=>!x.1) && (backToKw cp (keywordEach [] env)).all (fun x=>x.1.isSome)
 && decide (([z]:List aI).length+([]:List jJ).length+(if ([]:List jJ).isEmpty then 0 else 1) < 30)) = true:=by
 rw [cG (cb h)];rfl
theorem wd (C:Cok X c cx k) (hx:fk c i x = true) (hl:ap.endLine = cp.line) (hz:ckE c e z = true) (n:(!bS e) = true) (he:PE X z (tE X.K cx e)) :
 PS X (.Expr (.Call (.Attribute (.Name x p1) "append" ap) [z] [] cp) p2) (tS X.K (evS cx (.append i e))):=by
 obtain ⟨n1,n2,n3,n4⟩:=C.name hx;have hs:=cG (cb hz) [] X.env;have hA:PA X [z] (tEs X.K cx (.cons e .nil)):=qK (by simp [npS]) he um hs;refine PS.imp (zP (JS PySem.F.plainAttrs_list PySem.F.slot_list_append PySem.F.type_list_append sY (jV n1 n2 n3 n4) hA rfl (OO hz) (by simpa using hl) hs rfl)) fun E σ H zz=>?_;obtain ⟨G,F,δ,out,ok,ev,post⟩:=zz;simp only [evS] at ev
 cases q:δ[i]? with
 | none=>rw [q] at ev;cases ev
 | some s =>
   rw [q] at ev
   cases s with
   | no=>cases ev
   | fnc _ _=>cases ev
   | val _=>cases ev
   | own ds0 =>
     simp only [ah,ae] at ev;obtain ⟨⟨d,δ1⟩,e1,ev⟩:=ev;dsimp only at ev;obtain ⟨a,xs0,ea,f1,f2,f3,f4⟩:=ok.sl i _ q
     cases q1:δ1[i]? with
     | none=>rw [q1] at ev;cases ev
     | some s1 =>
       rw [q1] at ev
       cases s1 with
       | no=>cases ev
       | fnc _ _=>cases ev
       | val _=>cases ev
       | own ds =>
         dsimp only at ev;split at ev
         . rename_i hz';cases ev;refine ⟨.ref a,ea,.inl ⟨rfl,xs0,.inl (.inl f3)⟩,G,F,δ,[d],δ1,ok,by simp [hZ,e1],fun vs H1 F1 st sm ok1 r=>?_⟩;obtain ⟨d',ds',v,vs',ed,rfl,rv,rn⟩:=r;cases ed;obtain ⟨_,rfl⟩:=rn;have rv':=eR n rv;obtain ⟨a',xs,ea',g1,g2,g3,g4⟩:=ok1.sl i _ q1;rw [ea] at ea';cases ea';obtain ⟨o1,o2⟩:=ok1.write q1 ea (g4.append (aK.one rv'));exact ⟨a,xs,v,rfl,rfl,g3,by rw [g4.length];exact hz',post σ _ F1 (st.trans o2) o1⟩
         . cases ev
noncomputable def Od (X:Cx):V->List V->Hp->VK->Prop:=fun x vs H Q=>∃ l b xs zs,x = .ref l/\vs = [.ref b]/\H l = some (.lst xs)/\LsB X.K H b zs/\xs.length+zs.length<=sizeLine/\Q .non (upd H l (.lst (xs++zs)))
theorem Jk:MtM X "list.extend" (Od X):=by
 intro pins s σ H x vs v us Q I rx rv h;obtain ⟨l,b,xs,zs,rfl,rfl,hH,hB,hz,q⟩:=h;cases rx;obtain ⟨u,rfl,ru⟩:=rv.one;cases ru;obtain ⟨z,its,n,r,hl,e⟩:=I.lstM hH;obtain ⟨its2,n2,r2,e2,z2⟩:=hB.obj I;have hl2:=r2.length;have s1:its.toArray.size = xs.length:=by rw [aH];lia
 have s2:its2.toArray.size = zs.length:=by rw [aH];lia
 refine call_meets F.slot_list_extend ⟨_,e,rfl⟩ F.entry_list_extend (F.args_list_extend_2 _ _) (AutoSeq1.list_extend_list_list_0 l its.toArray n b its2.toArray n2 ?_ (by rw [s1];lia) (by lia)) ⟨e,e2,?_⟩
 . rw [s1,s2,Fx hz,Bool.and_false];exact au
 . refine ⟨.non,_,I.lset (its':=its++its2) hH e (by simp) (r.append r2) (by rw [ar];lia),rfl,q⟩
theorem wb (C:Cok X c cx k) (hx:fk c i x = true) (hl:ap.endLine = cp.line) (hz:ckE c e z = true) (n:(!bS e) = true) (he:PE X z (tE X.K cx e)) :
 PS X (.Expr (.Call (.Attribute (.Name x p1) "extend" ap) [z] [] cp) p2) (tS X.K (evS cx (.extend i e))):=by
 obtain ⟨n1,n2,n3,n4⟩:=C.name hx;have hs:=cG (cb hz) [] X.env;have hA:PA X [z] (tEs X.K cx (.cons e .nil)):=qK (by simp [npS]) he um hs;refine PS.imp (zP (JS PySem.F.plainAttrs_list PySem.F.slot_list_extend PySem.F.type_list_extend Jk (jV n1 n2 n3 n4) hA rfl (OO hz) (by simpa using hl) hs rfl)) fun E σ H zz=>?_;obtain ⟨G,F,δ,out,ok,ev,post⟩:=zz;simp only [evS] at ev
 cases q:δ[i]? with
 | none=>rw [q] at ev;cases ev
 | some s =>
   rw [q] at ev
   cases s with
   | no=>cases ev
   | fnc _ _=>cases ev
   | val _=>cases ev
   | own ds0 =>
     simp only [ah,ae] at ev;obtain ⟨⟨d,δ1⟩,e1,ev⟩:=ev;obtain ⟨a,xs0,ea,f1,f2,f3,f4⟩:=ok.sl i _ q
     cases d with
     | lst ys =>
       dsimp only at ev
       cases q1:δ1[i]? with
       | none=>rw [q1] at ev;cases ev
       | some s1 =>
         rw [q1] at ev
         cases s1 with
         | no=>cases ev
         | fnc _ _=>cases ev
         | val _=>cases ev
         | own ds =>
           dsimp only at ev;split at ev
           . rename_i hz';cases ev;refine ⟨.ref a,ea,.inl ⟨rfl,xs0,.inl (.inl f3)⟩,G,F,δ,[.lst ys],δ1,ok,by simp [hZ,e1],fun vs H1 F1 st sm ok1 r=>?_⟩;obtain ⟨d',ds',v,vs',ed,rfl,rv,rn⟩:=r;cases ed;obtain ⟨_,rfl⟩:=rn;have rv':=eR n rv;unfold Rel at rv';obtain ⟨b,zs,rfl,rb,rl⟩:=rv';obtain ⟨a',xs,ea',g1,g2,g3,g4⟩:=ok1.sl i _ q1;rw [ea] at ea';cases ea';obtain ⟨o1,o2⟩:=ok1.write q1 ea (g4.append rl);exact ⟨a,b,xs,zs,rfl,rfl,g3,rb.b,by rw [g4.length,rl.length];exact hz',post σ _ F1 (st.trans o2) o1⟩
           . cases ev
     | _=>cases ev
theorem yx (C:Cok X c cx k) (hx:fk c i x = true) (hy:ckE c e y = true) (n:(!bS e) = true) (nc:(!kW y) = true) (hz:ckE c j z = true) (nj:(!bS j) = true) (he:PE X y (tE X.K cx e)) (hj:PE X z (tE X.K cx j)) :
 PS X (.Assign [.Subscript (.Name x p1) z p2] y pos) (tS X.K (evS cx (.setix i j e))):=by
 obtain ⟨n1,n2,n3,n4⟩:=C.name hx;have nc':kW y = false:=by simpa using nc
 have hh:=cb hz;have hh2:=cb hy
 have ha:∀ v,assign (.Subscript (.Name x p1) z p2) X.env v = (do
  let ov <- holding [v] (eval (.Name x p1) X.env)
  let iv <- holding [v,ov] (eval z X.env)
  standAt p2
  holding [v,ov,iv] (setItem ov iv v)
  release [v,ov,iv] []):=by
  intro v;cases z<;>first | rfl | (exact absurd hh au)
 have hsw:swapsWithSole [.Subscript (.Name x p1) z p2] y pos.line X.env = pure false:=by
  cases y<;>first | rfl | (exact absurd hh2 au) | (exact absurd nc'.symm au)
 have hw:swappedStores [.Subscript (.Name x p1) z p2] y X.env = pure none:=by
  cases y<;>first | rfl | (exact absurd hh2 au)
 refine PS.imp (ET he (LO (jV n1 n2 n3 n4) hj set_list ha) hsw hw rfl) fun E σ H zz=>?_;obtain ⟨G,F,δ,out,ok,ev,post⟩:=zz;simp only [evS,ah,ae] at ev;obtain ⟨⟨d,δ1⟩,e1,ev⟩:=ev;dsimp only at ev;refine ⟨G,F,δ,d,δ1,ok,e1,fun v H1 F1 st1 sm1 ok1 r1=>?_⟩
 cases q1:δ1[i]? with
 | none=>rw [q1] at ev;cases ev
 | some s1 =>
   rw [q1] at ev
   cases s1 with
   | no=>cases ev
   | fnc _ _=>cases ev
   | val _=>cases ev
   | own ds0 =>
     obtain ⟨a,xs0,ea,f1,f2,f3,f4⟩:=ok1.sl i _ q1;simp only [ae] at ev;obtain ⟨⟨dj,δ2⟩,e2,ev⟩:=ev;refine ⟨.ref a,ea,G,F1,δ1,dj,δ2,ok1,e2,fun w H2 F2 st2 sm2 ok2 r2=>?_⟩
     cases dj with
     | int m =>
       have:=r2.b.int;subst this;dsimp only at ev
       cases q2:δ2[i]? with
       | none=>rw [q2] at ev;cases ev
       | some s2 =>
         rw [q2] at ev
         cases s2 with
         | no=>cases ev
         | fnc _ _=>cases ev
         | val _=>cases ev
         | own ds =>
           dsimp only at ev;obtain ⟨a',xs,ea',g1,g2,g3,g4⟩:=ok2.sl i _ q2;rw [ea] at ea';cases ea'
           cases q3:ixN ds.length m with
           | none=>rw [q3] at ev;cases ev
           | some mm =>
             rw [q3] at ev;cases ev;have rv:=Rel.step ok1.fd st2 d v (eR n r1);obtain ⟨o1,o2⟩:=ok2.write q2 ea (aK.set rv mm g4)
             exact ⟨a,xs,m,mm,rfl,rfl,g3,by rw [g4.length];exact q3,post σ _ F2 ((st1.trans st2).trans o2) o1⟩
     | _=>cases ev
theorem Ex:PS X x (tS X.K (evS cx .bad)):=fun pins s σ H D I h=>by
 obtain ⟨G,F,δ,out,ok,ev,post⟩:=h;have ev:none = some out:=ev;cases ev
theorem Pw (hm:newOk e = true) (C:Cok X c cx k) (h:ckE c e y = true):PE X y (tN X.K cx e):=by
 unfold newOk at hm;split at hm
 . obtain ⟨_,_,rfl,hh⟩:=qU h;rw [aa] at hh;exact Ey hh.2 (gk _ X c _ C hh.1 (gU hh.2))
 . rename_i es;obtain ⟨_,_,xs,_,rfl,hh⟩:=fZ h;simp only [aa] at hh;obtain ⟨⟨h1,h2⟩,h3⟩:=hh;have e1:=of_decide_eq_true h1;subst e1;have h3:(!xs.isEmpty && gH c es xs && oy es) = true:=h3;simp only [aa] at h3
   cases xs with
   | nil=>simp at h3
   | cons y ys=>exact BP C h2 (gk _ X c _ C h3.1.2 h3.2) h3.1.2
 . obtain ⟨_,_,_,rfl,hh⟩:=kP h;obtain ⟨_,_,o,_,rfl,h9⟩:=zU hh;simp only [aa] at h9;obtain ⟨h0,⟨⟨h1,h2⟩,h3⟩,h4⟩:=h9;obtain rfl:=dF.mp h0;exact Ip (by simpa using h4) (dR _ X c _ C h1) (Io _ X c _ C h2) (Io _ X c _ C h3)
 . cases hm
end
section
variable {X:Cx} {c:Ck} {cx:Cl} {k:Nat}
theorem BO (C:Cok X c cx k) (hS:X.env.scope = c.sc) (hB:X.env.blockKind = .function) (ho:(!own) = true)
 (hn:jW c i t = true) (h:ckE c (.comp kk tg src ifs elt) (.ListComp ex gs sc p) = true) (hl:c.sc.names.lookup t = some .cell) (he:PE X (.ListComp ex gs sc p) (tE X.K cx (.comp kk tg src ifs elt))) :
 PS X (.Assign [.Name t tp] (.ListComp ex gs sc p) sp) (tS X.K (evS cx (.cmp own i (.comp kk tg src ifs elt)))):=by
 have hs:swapsWithSole [.Name t tp] (.ListComp ex gs sc p) sp.line X.env = pure false:=by
  have e1:X.env.kindOf t = some .cell:=by
   show X.env.scope.names.lookup t = some .cell;rw [hS];exact hl
  show (pure (X.env.blockKind == .function && X.env.kindOf t == some .local && tp.line == p.line && !(sc.names.any fun (n,k)=>n == t && (k == .local || k == .cell))):Sem Bool) = pure false;rw [hB,e1];congr 1
 have ht:oJ c (.nm i) (.Name t tp) = true:=by
  unfold oJ eS;exact Bool.and_eq_true_iff.mpr ⟨rfl,hn⟩
 refine PS.imp (wc (tg:=.nm i) C rfl ht h rfl hs he) fun D σ H hq=>?_;obtain ⟨G,F,δ,o,ok,ev,post⟩:=hq;refine ⟨G,F,δ,o,ok,?_,post⟩;obtain rfl:own = false:=by simpa using ho
 simp only [evS,ah,ae] at ev ⊢;obtain ⟨⟨d,δ1⟩,e1,ev⟩:=ev
 cases d with
 | lst ds =>
   dsimp only at ev;split at ev
   . rename_i hi;cases ev;refine ⟨_,e1,_,?_,rfl⟩;exact if_pos hi
   . cases ev
 | _=>cases ev
theorem Ew (C:Cok X c cx k) (hS:X.env.scope = c.sc) (hB:X.env.blockKind = .function)
 (hn:jW c i t = true) (h:ckE c (.comp kk tg src ifs elt) (.ListComp ex gs sc p) = true) (hl:c.sc.names.lookup t = some .local) (hp:tp.line = p.line) (hz:(!(sc.names.any fun (n,k)=>n == t && (k == .local || k == .cell))) = true) :
 PS X (.Assign [.Name t tp] (.ListComp ex gs sc p) sp) (tS X.K (evS cx (.cmp own i (.comp kk tg src ifs elt)))):=by
 obtain ⟨n1,n2,n3⟩:=C.to hn;obtain ⟨_,_,_,_,e,hh⟩:=qd h;cases e;obtain ⟨_,rfl,h9⟩:=eT hh;obtain ⟨tgt,it,il,rfl,h10⟩:=uF h9;replace h:=h10
 . split at h
   . rename_i ts ht;simp only [aa] at h;obtain ⟨⟨⟨⟨⟨⟨⟨⟨h1,h2⟩,h3⟩,h4⟩,h5⟩,h6⟩,h7⟩,h8⟩,h9⟩:=h;obtain ⟨nd,hvis⟩:=jB h4;have hk:=kK (tg:=tg) (c:=c) (of_decide_eq_true h1)
     have hsw:swapsWith (.ListComp ex [⟨tgt,it,il,0⟩] sc p) (some (.Name t tp)) sp.line X.env = pure true:=by
      have e1:X.env.kindOf t = some .local:=by
       show X.env.scope.names.lookup t = some .local;rw [hS];exact hl
      show (pure (X.env.blockKind == .function && X.env.kindOf t == some .local && tp.line == p.line && !(sc.names.any fun (n,k)=>n == t && (k == .local || k == .cell))):Sem Bool) = pure true;rw [hB,e1,hp,hz];congr 1;simp
     intro pins s σ H E I hq
     refine ER (Nc:=jC ts c.N++ts) (te:=tE X.K cx elt) (tt:=tG X.K cx ifs) (g:=gTg X.K tg) C.xe C.calm (mP C h3) (fun i x hi=>by rw [C.hN] at hi ⊢;exact hvis i x hi) (by rw [C.hN,hk];lia) (Ez src X c _ _ C h6)
      (fun cl Ca s H fp=>me (dZ C h3 nd cl Ca s H fp) h5) (fun cl Ca s H fp=>Lo ifs _ _ _ (dZ C h3 nd cl Ca s H fp) h7) (fun cl Ca s H fp=>dR elt _ _ _ (dZ C h3 nd cl Ca s H fp) h8) (fun v=>nH h6 _ v)
      C.nd' n1 n2 n3 hsw pins s σ H E I ?_
     obtain ⟨G,F,δ,o,ok,ev,post⟩:=hq;simp only [evS,ah,ae] at ev;obtain ⟨⟨d,δ1⟩,e1,ev⟩:=ev
     cases d with
     | lst ds =>
       dsimp only at ev;split at ev
       . rename_i hi;cases ev;refine xy C I h9 hk h2 ok e1 fun p ys xs H1 F1 H2 F2 e st1 st2 hp hg ok2 eD rl sm=>?_;cases e;show E.nx (σ.set i (some (.ref p))) H2
         cases own with
         | true =>
           refine post _ H2 F2 (st1.trans st2) ((ok2.keep).own hi (ok2.rf p (.inr rfl)) hg eD rl fun j s ej ho z=>?_);obtain ⟨a,u,d,e2,_,g2,_⟩:=fF.ow (ok2.sl j _ ej) ho;rw [z] at e2;cases e2
           exact g2.2 (.inr rfl)
         | false =>
           have st':Step G F1 H1 (fun b=>F2 b/\b≠p) H2:=⟨st2.keep,fun b z=>st2.grow b z.1,fun b o r f e=>by
            obtain ⟨a1,a2⟩:=st2.res b o r f e;exact ⟨⟨a1,fun w=>by rw [w,hp] at e;cases e⟩,a2⟩,st2.tb⟩
           refine post _ H2 _ (st1.trans st') ((ok2.leave hg).set hi ?_);unfold Rel;exact ⟨p,xs,rfl,.inl ⟨.inl eD,fun z=>z.2 rfl⟩,aK.less ok2.fd (fun b z=>z.1) rl⟩
       . cases ev
     | _=>cases ev
   . cases h
end
section
variable {X:Cx} {c:Ck} {cx:Cl} {k:Nat} (C:Cok X c cx k) (hS:X.env.scope = c.sc) (hB:X.env.blockKind = .function)
include C hS hB
mutual
theorem Pu:∀ (s:S) (x:de),ckS c s x = true->PS X x (tS X.K (evS cx s))
 | .asg tg e,x,h=>by
   obtain ⟨_,_,_,rfl,hq1⟩:=mW h;obtain ⟨_,rfl,hq2⟩:=eT hq1;replace h:=hq2
   . simp only [aa] at h;obtain ⟨⟨⟨⟨h1,h2⟩,h3⟩,h4⟩,h5⟩:=h;rw [cD] at h5;rcases h5 with h5 | h5
     . exact wc C h5 h1 h2 h3 (rD (cb h2) (by simpa using h4) _ _ _) (dR e X c _ C h2)
     . unfold JT at h5;split at h5
       . exact Ep C hS hB h5 fun a b q n=>gk _ X c _ C q (gU n)
       . cases h5
 | .new i e,x,h=>by
   obtain ⟨_,_,_,rfl,hq1⟩:=mW h;obtain ⟨_,rfl,hq2⟩:=eT hq1;obtain ⟨_,_,rfl,hq3⟩:=cF hq2;replace h:=hq3
   . simp only [aa] at h;obtain ⟨⟨⟨h1,h2⟩,h3⟩,h4⟩:=h
     exact Er C h1 h2 h3 (Pw h4 C h2)
 | .cmp own i e,x,h=>by
   have h:(Ge e && _) = true:=h;rw [aa] at h;obtain ⟨h0,h⟩:=h;cases e<;>first | (cases h0;done) | skip
   obtain ⟨_,_,_,rfl,hh⟩:=mW h;obtain ⟨_,rfl,h2⟩:=eT hh;obtain ⟨_,_,rfl,h3⟩:=uD h2;obtain ⟨_,_,_,_,rfl,h4⟩:=qd h3;simp only [aa] at h4;obtain ⟨⟨a1,a2⟩,a3⟩:=h4;rcases Bool.or_eq_true_iff.mp a3 with a3 | a3
   . simp only [aa] at a3;exact Ew C hS hB a1 a2 (of_decide_eq_true a3.1.1) (of_decide_eq_true a3.1.2) a3.2
   . rw [aa] at a3
     exact BO C hS hB a3.1 a1 a2 (of_decide_eq_true a3.2) (dR _ X c _ C a2)
 | .ret e,x,h=>by
   obtain ⟨_,_,rfl,hq1⟩:=Fi h;obtain ⟨_,rfl,hq2⟩:=Fl hq1;replace h:=hq2
   . rw [aa] at h
     exact En h.2 (dR e X c _ C h.1)
 | .retL _ _ _ _,x,h=>by
   cases h
 | .ifs t a b,x,h=>by
   obtain ⟨_,_,_,_,rfl,hq1⟩:=Fo h;replace h:=hq1
   . simp only [aa] at h
     exact Et (pN t X c _ C h.1.1) (sI a _ h.1.2) (sI b _ h.2)
 | .for_ tg src body,x,h=>by
   obtain ⟨_,_,_,_,_,rfl,hq1⟩:=wM h;obtain ⟨rfl,hq2⟩:=fL hq1;replace h:=hq2
   . simp only [aa] at h
     exact Eu C h.1.1 (Ez src X c _ _ C h.1.2) (fun v=>nH h.1.2 _ v) (sI body _ h.2)
 | .forZ tg es body,x,h=>by
   obtain ⟨t,it,ys,z,p,rfl,h1⟩:=wM h;obtain ⟨rfl,h2⟩:=fL h1;obtain ⟨n,np,xs,cp,rfl,h3⟩:=fZ h2;obtain ⟨u,v,rfl,h4⟩:=qX h3;simp only [aa] at h4;obtain ⟨⟨⟨⟨⟨⟨a1,a2⟩,a3⟩,a4⟩,a5⟩,a6⟩,a7⟩:=h4;have e:=of_decide_eq_true a2;subst e
   exact BN C a1 a4 (C.global a3).1 (C.blt _ (by decide +kernel)) (gk es X c _ C a5 (gU a6)) a5 a6 (sI body _ a7)
 | .append i e,x,h=>by
   obtain ⟨_,_,rfl,hh⟩:=zX h;obtain ⟨_,_,_,_,_,rfl,hln,h2⟩:=uE hh;obtain ⟨_,_,rfl,h3⟩:=cF h2;obtain ⟨_,rfl,h4⟩:=eT h3;simp only [aa] at h4;obtain ⟨⟨⟨a1,a2⟩,a3⟩,a4⟩:=h4;have z:=of_decide_eq_true a1;subst z
   exact wd C a2 hln a3 a4 (dR e X c _ C a3)
 | .extend i e,x,h=>by
   obtain ⟨_,_,rfl,hh⟩:=zX h;obtain ⟨_,_,_,_,_,rfl,hln,h2⟩:=uE hh;obtain ⟨_,_,rfl,h3⟩:=cF h2;obtain ⟨_,rfl,h4⟩:=eT h3;simp only [aa] at h4;obtain ⟨⟨⟨a1,a2⟩,a3⟩,a4⟩:=h4;have z:=of_decide_eq_true a1;subst z
   exact wb C a2 hln a3 a4 (dR e X c _ C a3)
 | .setix i j e,x,h=>by
   obtain ⟨_,_,_,rfl,hq1⟩:=mW h;obtain ⟨_,rfl,hq2⟩:=eT hq1;obtain ⟨_,_,_,rfl,hq3⟩:=kP hq2;obtain ⟨_,_,rfl,hq4⟩:=cF hq3;replace h:=hq4
   . simp only [aa] at h;obtain ⟨⟨⟨⟨⟨h1,h2⟩,h3⟩,h4⟩,h5⟩,h6⟩:=h
     exact yx C h1 h2 h3 h4 h5 h6 (dR e X c _ C h2) (dR j X c _ C h5)
 | .bad,x,h=>Ex
theorem sI:∀ (ss:Ss) (xs:List de),xD c ss xs = true->PSs X xs (tS X.K (eV cx ss))
 | .nil,xs,h=>by
   obtain ⟨rfl,hq1⟩:=fL h;replace h:=hq1
   . exact wa
 | .cons s ss,xs,h=>by
   obtain ⟨_,_,rfl,hq1⟩:=eJ h;replace h:=hq1
   . rw [aa] at h;exact sJ (Pu s _ h.1) (sI ss _ h.2)
end
end
structure Mk (X:Cx) (P:aw) (q:Str):Prop where
 cd:∃ c,X.env.code = .ref c/\PySem.W.CodeHd X.base c P
 ql:X.env.qual++"<lambda>" = q
 tb:(P,q)∈Tbs.ts
 un:∀ t∈Tbs.ts,t.1 = P->t.2 = q
 bm:∃ bm ob,X.mg "__builtins__" = some (.ref bm)/\bm≠builtinsNs/\X.base.get? bm = some ob/\ob.cls = .type "module"/\ob.dict = some builtinsNs/\ob.data = .plain
theorem yX (l:List af) (h:TriplesOk l) (e:codeAmong p (l++[rawInt a,rawInt b,c]) = some v):codeAmong p l = some v\/v = c:=by
 fun_induction TriplesOk l with
 | case1 =>
   simp only [cC,codeAmong,rawInt] at e;split at e
   . cases e;exact .inr rfl
   . cases e
 | case2 a' t b' u x rest ih =>
   simp only [fR,codeAmong] at e ⊢;split at e
   . rename_i hc;rw [if_pos hc];exact .inl e
   . rename_i hc;rw [if_neg hc];exact ih h e
 | case3 l h1 h2=>exact h.elim
theorem Gr (g:h.get? a = some o):fe P w H h a (fzO a o):=⟨g,g,⟨o,g⟩,fun h1 h2 e1 k=>k _ e1⟩
section
variable {X:Cx} {cx:Cl} {k:Nat}
theorem OC (I:Inv X pins σ H s) (M:Mk X P q) (tabs:ik H) (hcl:closureFor scope X.env = pure clos) (hdef:defaultsOf params X.env = ([],[]))
 (h:∀ (f c':aw) (oc:Obj) (vs:Array af) (tk:Tok) (pm ctv:af) (H':Hp),Sim H H'->ik H'->Fz H' f (PySem.W.kla_obj "<lambda>" q params body scope clos pm c' ctv)->Fz H' c' oc->oc.data = .fields vs->vs[1]? = some (.str q tk)->Q (.ref f) H') :
 wpAny (model X.prog X.w) X.A (eval (.Lambda params body scope pos) X.env) (EP X pins σ Q) X.xe s:=by
 refine PySem.W.kla_eval hdef ?_;rw [M.ql];obtain ⟨ps,hP,tr,am⟩:=tabs _ M.tb;dsimp only at hP am;obtain ⟨c,hcode,CH⟩:=M.cd;obtain ⟨bm,ob,b1,b2,b3,b4,b5,b6⟩:=M.bm;have hg:s.heap.Ns mainGlobals X.mg:=I.mod.glob.keeps I.bk;have hPh:s.heap.get? P = some (PySem.W.tabObj ps):=I.hok P _ hP
 have hgP:mainGlobals≠P:=fun z=>by
  obtain ⟨o,es,ep,e,hd,_⟩:=hg;rw [z,hPh] at e;cases e;cases hd
 have hbP:bm≠P:=fun z=>by
  have:=(I.bs _ _ b3).2;rw [z,hP] at this;cases this
 have hbG:bm≠mainGlobals:=fun z=>by
  obtain ⟨o,es,ep,e,hd,_⟩:=hg;have:=I.bk _ _ b3;rw [z,e] at this;cases this;rw [hd] at b6;cases b6
 have BA:s.heap.BuiltinsAt X.mg P:=⟨bm,ob,b1,b2,hbG,hbP,I.bk _ _ b3,b4,b5,b6⟩
 cases ca:codeAmong pos ps.toList with
 | some cv =>
   refine PySem.W.kla_makeFunctionHit (mg:=X.mg) hcl I.ok.glob hg hcode (CH.keeps I.bk) hPh tr ca BA fun ctv h' tk hk hsz=>?_;obtain ⟨c',oc,vs,t,rfl,fc,hd,hv⟩:=am pos cv ca;have hn:H h'.objs.size = none:=I.hok.fresh hsz;have sm:=cg hn (fzO h'.objs.size (PySem.W.kla_obj "<lambda>" q params body scope clos ((X.mg "__name__").getD .none) c' ctv));refine ⟨.ref h'.objs.size,_,I.laid (t':=tk) (fun b u e=>ag _ (hk b u e)) hsz (Gr (aE _ rfl)),rfl,?_⟩
   exact h _ c' oc vs t _ ctv _ (.of sm) (tabs.keep fun b o _ e=>sm b o e) bN (sm _ _ fc) hd hv
 | none =>
   refine PySem.W.kla_makeFunction (mg:=X.mg) hcl I.ok.glob hg hcode (CH.keeps I.bk) hPh tr ca hgP BA fun c' ctv h' tk hx hge hlt hrec htb=>?_;obtain ⟨c₂,oc,vs,t,e2,hoc,hd,hv⟩:=hrec;cases e2;generalize ho:PySem.W.kla_obj "<lambda>" q params body scope clos ((X.mg "__name__").getD .none) c' ctv = fo at *;have hfl:s.heap.objs.size<=h'.objs.size:=jb (bV hge hlt);have nc:H c' = none:=I.hok.fresh hge;have nf:H h'.objs.size = none:=I.hok.fresh hfl;have cP:c'≠P:=fun z=>by rw [z,hP] at nc;cases nc
   have fP:h'.objs.size≠P:=fun z=>by rw [z,hP] at nf;cases nf
   have cf:c'≠h'.objs.size:=aJ hlt
   let H1:=upd H P (.tbl (ps ++ #[rawInt pos.line,rawInt pos.col,.ref c']))
   let H2:=upd H1 c' (fzO c' oc)
   let H3:=upd H2 h'.objs.size (fzO h'.objs.size fo)
   have at3:∀ b,b≠P->b≠c'->b≠h'.objs.size->H3 b = H b:=fun b x y z=>by
    show upd H2 _ _ b = _;rw [bA z];show upd H1 _ _ b = _;rw [bA y];show upd H _ _ b = _;rw [bA x]
   have atf:H3 h'.objs.size = some (fzO h'.objs.size fo):=bN
   have atc:H3 c' = some (fzO c' oc):=by
    show upd H2 _ _ c' = _;rw [bA cf];exact bN
   have atP:H3 P = some (.tbl (ps ++ #[rawInt pos.line,rawInt pos.col,.ref c'])):=by
    show upd H2 _ _ P = _;rw [bA (Ne.symm fP)];show upd H1 _ _ P = _;rw [bA (Ne.symm cP)];exact bN
   have atO:∀ b o,b≠P->H b = some o->H3 b = some o:=fun b o n e=>by
    rw [at3 b n (fun z=>by rw [z,nc] at e;cases e) (fun z=>by rw [z,nf] at e;cases e)];exact e
   have nt3:∀ b o,(∀ qs,o≠.tbl qs)->H b = some o->H3 b = some o:=fun b o n e=>atO b o (fun z=>by rw [z,hP] at e;cases e;exact n _ rfl) e;have kh:∀ b o,b≠P->s.heap.get? b = some o->(h'.push fo).get? b = some o:=fun b o n e=>ag _ (hx b o n e);have gP:(h'.push fo).get? P = some (PySem.W.tabObj (ps ++ #[rawInt pos.line,rawInt pos.col,.ref c'])):=ag _ htb
   have hok3:HOk X.prog X.w H3 (h'.push fo):=fun b u e=>by
    by_cases hf:b = h'.objs.size
    . subst hf;rw [atf] at e;cases e;exact Gr (aE _ (by rw [<- ho];rfl))
    . by_cases hc:b = c'
      . subst hc;rw [atc] at e;cases e;exact Gr (ag _ hoc)
      . by_cases hp:b = P
        . subst hp;rw [atP] at e;cases e;exact gP
        . rw [at3 b hp hc hf] at e;refine (I.hok b u e).stay (fun b' u' z g=>kh b' u' ?_ g) (fun b' z=>nt3 b' _ (fun qs w=>by cases w) z) fun b' xs z=>nt3 b' _ (fun qs w=>by cases w) z;rcases z with z | z
          . rw [z];exact hp
          . rintro rfl;rw [hP] at z;cases z
   have un3:Un X.fs [] H H3 s.heap (h'.push fo):=⟨fun b o e n _ _=>kh b o (fun z=>by rw [z,hP] at n;cases n) e,fun b o e n _ _=>⟨o.slots,kh b o (fun z=>by rw [z,hP] at n;cases n) e⟩,
    fun b o e n _=>by
     rw [at3 b (fun z=>by rw [z,hP] at n;cases n) (aJ (aW (az e) hge)) (aJ (aW (az e) hfl))];exact n,
    fun b o e _=>by
     by_cases hp:b = P
     . exact ⟨_,hp▸gP⟩
     . exact ⟨o,kh b o hp e⟩,
    fun b xs e=>nt3 b _ (fun qs w=>by cases w) e,fun b o u e=>nt3 b _ (fun qs w=>by cases w) e,
    fun b qs e=>by
     by_cases hp:b = P
     . subst hp;rw [hP] at e;cases e;exact ⟨_,atP⟩
     . exact ⟨#[],by rw [atO b _ hp e];simp⟩⟩
   refine ⟨.ref h'.objs.size,H3,I.un (t':=tk) un3 hok3,rfl,?_⟩;refine h _ c' oc vs t _ ctv H3 ⟨fun b o n e=>nt3 b o (fun qs w=>by rw [w] at n;exact n) e,fun b qs e=>?_⟩ (fun t' ht=>?_) (by rw [ho];exact atf) atc hd hv
   . by_cases hp:b = P
     . exact ⟨_,hp▸atP⟩
     . exact ⟨qs,atO b _ hp e⟩
   . have fzk:∀ a o,Fz H a o->Fz H3 a o:=fun a o z=>nt3 a _ (fun qs w=>by cases w) z;by_cases hp:t'.1 = P
     . have:=M.un t' ht hp;refine ⟨_,by rw [hp];exact atP,by simpa using TriplesOk_snoc pos.line pos.col (.ref c') _ tr,fun p cv e=>?_⟩;rw [Bc] at e;rcases yX _ tr e with z | z
       . obtain ⟨c₁,o₁,v₁,t₁,z1,z2,z3,z4⟩:=am p cv z;exact ⟨c₁,o₁,v₁,t₁,z1,fzk _ _ z2,z3,by rw [this];exact z4⟩
       . exact ⟨c',oc,vs,t,z,atc,hd,by rw [this];exact hv⟩
     . obtain ⟨qs,a1,a2,a3⟩:=tabs t' ht;refine ⟨qs,atO _ _ hp a1,a2,fun p cv e=>?_⟩;obtain ⟨c₁,o₁,v₁,t₁,z1,z2,z3⟩:=a3 p cv e;exact ⟨c₁,o₁,v₁,t₁,z1,fzk _ _ z2,z3⟩
end
section
variable {K:PySem.W.Frag} {H H':Hp} {h:bK} {F:aw->Prop} {cs:List (aw × Obj)}
theorem Un0.same (u:Un0 H h cs):iH H (kC H cs):=fun b o e=>AQ u e
theorem Iq (u:Un0 H h cs) (s:Sim (kC H cs) H'):Sim H (ig H' cs):=by
 have out:∀ b o,H b = some o->cs.lookup b = none:=fun b o e=>by
  cases q:cs.lookup b with
  | none=>rfl
  | some x=>rw [(u b x q).1] at e;cases e
 exact ⟨fun b o n e=>by rw [cK (out b o e)];exact s.nt b o n (u.same b o e),fun b ps e=>by
  obtain ⟨qs,z⟩:=s.tb b ps (u.same b _ e);exact ⟨qs,by rw [cK (out b _ e)];exact z⟩⟩
theorem MQ (z:Fz0 H cs) (hc:∀ b o,cs.lookup b = some o->∃ v,o.data = .cell v) (e:Fz H a o) (n:∀ v,o.data≠.cell v):Fz (ig H cs) a o:=by
 cases q:cs.lookup a with
 | none=>unfold Fz;rw [cK q];exact e
 | some x =>
   have y:=z a x q;unfold Fz at e;rw [e] at y;unfold fzO at y;cases y;obtain ⟨v,d⟩:=hc a o q;exact absurd d (n v)
theorem vT (t:ik H) (z:Fz0 H cs) (hc:∀ b o,cs.lookup b = some o->∃ v,o.data = .cell v):ik (ig H cs):=fun y hy=>by
 obtain ⟨ps,h1,h2,h3⟩:=t y hy;refine ⟨ps,?_,h2,fun pos cv e=>?_⟩
 . cases q:cs.lookup y.1 with
   | none=>rw [cK q];exact h1
   | some x =>
     have:=z _ x q;rw [h1] at this;cases this
 . obtain ⟨c,o,vs,tk,e1,e2,e3,e4⟩:=h3 pos cv e;exact ⟨c,o,vs,tk,e1,MQ z hc e2 (fun v w=>by rw [e3] at w;cases w),e3,e4⟩
theorem HV (z:Fz0 H cs) (h:SqT K H a xs):SqT K (ig H cs) a xs:=by
 rcases h with h | h
 . left
   cases q:cs.lookup a with
   | none =>
     rcases h with h | ⟨o,h⟩
     . exact .inl (by rw [cK q];exact h)
     . exact .inr ⟨o,by rw [cK q];exact h⟩
   | some x =>
     have y:=z a x q;rcases h with h | ⟨o,h⟩
     . rw [h] at y;cases y
     . rw [h] at y;cases y
 . exact .inr h
mutual
theorem zK (z:Fz0 H cs):∀ (d:D) (v:V),lf d = true->Rel K H F d v->Rel K (ig H cs) F d v
 | .non,v,_,h=>by unfold Rel at h ⊢;exact h
 | .bl b,v,_,h=>by unfold Rel at h ⊢;exact h
 | .int i,v,_,h=>by unfold Rel at h ⊢;exact h
 | .str x,v,_,h=>by unfold Rel at h ⊢;exact h
 | .lst ds,v,l,h=>by unfold lf at l;cases l
 | .tup ds,v,l,h=>by
   unfold lf at l;unfold Rel at h ⊢;obtain ⟨a,xs,e,h1,h3⟩:=h
   exact ⟨a,xs,e,HV z h1,qM z ds xs l h3⟩
 | .fn _ _,v,l,h=>by unfold lf at l;cases l
theorem qM (z:Fz0 H cs):∀ (ds:List D) (xs:List V),lfL ds = true->aK K H F ds xs->aK K (ig H cs) F ds xs
 | [],xs,_,h=>by unfold aK at h ⊢;exact h
 | d::ds,xs,l,h=>by
   unfold lfL at l;rw [aa] at l;unfold aK at h ⊢;obtain ⟨y,ys,e,h1,h2⟩:=h;exact ⟨y,ys,e,zK z d y l.1 h1,qM z ds ys l.2 h2⟩
end
theorem lookup_mem:∀ {l:List (aw × Obj)},l.lookup b = some o->(b,o)∈l
 | [],h=>by simp at h
 | (c,x)::l,h=>by
   rw [bY] at h
   cases q:(b == c) with
   | true =>
     rw [q] at h;cases h;rw [show b = c by simpa using q]
     exact ao
   | false =>
     rw [q] at h;exact aq _ (lookup_mem h)
theorem ma:∀ {cells:List aw} {os:List Obj} {p:aw × Obj},cells.Nodup->p∈cells.zip os->(cells.zip os).lookup p.1 = some p.2
 | [],_,_,_,h=>by simp at h
 | _::_,[],_,_,h=>by simp at h
 | c::cells,o::os,p,n,h=>by
   rw [cX] at h ⊢;rcases aD.mp h with rfl | h
   . simp [List.lookup]
   . have hne:p.1≠c:=fun z=>(bQ.mp n).1 (by rw [<- z];exact (iL (a:=p.1) (b:=p.2) h).1);have:(p.1 == c) = false:=by simpa using hne
     rw [bY,this];exact ma (bQ.mp n).2 h
end
noncomputable def oO (X:Cx):List Nat->List Str->List aw->Prop
 | [],ys,cs=>ys = []/\cs = []
 | i::r,ys,cs=>∃ y ys' c cs',ys = y::ys'/\cs = c::cs'/\X.N[i]? = some y/\X.env.kindOf y = some .cell/\X.env.cells.lookup y = some c/\oO X r ys' cs'
section
variable {X:Cx} {cx:Cl} {k:Nat}
theorem Gw {K:PySem.W.Frag} {H:Hp} {F:aw->Prop} {d:D} {v:V} (f:flat d = true) (r:Rel K H F d v):v = flV d:=by
 cases d<;>first | (unfold Rel at r;exact r) | (unfold flat at f;cases f)
theorem xF:∀ {caps:List Nat} {ys:List Str} {cells:List aw},oO X caps ys cells->∀ c∈cells,∃ y∈ys,X.env.cells.lookup y = some c
 | [],ys,cells,h=>by obtain ⟨rfl,rfl⟩:=h;simp
 | i::r,ys,cells,h=>by
   obtain ⟨y,ys',c,cs',rfl,rfl,_,_,e,h⟩:=h;intro c' hc;rcases aD.mp hc with rfl | hc
   . exact ⟨y,ao,e⟩
   . obtain ⟨y',h1,h2⟩:=xF h c' hc;exact ⟨y',aq _ h1,h2⟩
theorem mz (inj:∀ x y c,X.env.cells.lookup x = some c->X.env.cells.lookup y = some c->x = y):∀ {caps:List Nat} {ys:List Str} {cells:List aw},oO X caps ys cells->ys.Nodup->cells.Nodup/\cells.length = ys.length
 | [],ys,cells,h,_=>by obtain ⟨rfl,rfl⟩:=h;simp
 | i::r,ys,cells,h,n=>by
   obtain ⟨y,ys',c,cs',rfl,rfl,_,_,e,h⟩:=h;obtain ⟨n1,n2⟩:=bQ.mp n;obtain ⟨a,b⟩:=mz inj h n2;refine ⟨bQ.mpr ⟨fun z=>?_,a⟩,by simp [b]⟩;obtain ⟨y',h1,h2⟩:=xF h c z;exact n1 (inj y y' c e h2▸h1)
theorem AH (I:Inv X pins σ H s) (ok:Ok X.K G F σ H δ):∀ {caps:List Nat} {ys:List Str} {cells:List aw} {cs:List D},oO X caps ys cells->lY δ caps = some cs ->
 ∃ os:List Obj,os.length = cells.length/\(∀ p∈cells.zip os,H p.1 = none/\s.heap.get? p.1 = some p.2/\(∃ y,X.env.cells.lookup y = some p.1)/\∃ v,p.2.data = .cell v)/\∀ H':Hp,(∀ p∈cells.zip os,Fz H' p.1 p.2)->lq H' cells cs
 | [],ys,cells,cs,h,e=>by
   obtain ⟨rfl,rfl⟩:=h;unfold lY at e;cases e
   exact ⟨[],rfl,by simp,fun _ _=>rfl⟩
 | i::r,ys,cells,cs,h,e=>by
   obtain ⟨y,ys',c,cs',rfl,rfl,hN,hk,hc,h⟩:=h;unfold lY at e
   cases q:get δ i with
   | none=>rw [q] at e;cases e
   | some d =>
     rw [q] at e;dsimp only at e;split at e
     . rename_i hf;rw [aG] at e;obtain ⟨ds,e1,rfl⟩:=e;obtain ⟨os,l,a1,a2⟩:=AH I ok h e1;obtain ⟨v,ev,rb,_⟩:=ok.look q
       have rv:v = flV d:=by
        rcases rb with rb | ⟨_,_,_,z,_⟩
        . exact Gw hf rb
        . rw [z] at hf;cases hf
       subst rv;obtain ⟨m,hn,hl⟩:=I.loc;obtain ⟨u,ru,lk⟩:=hl i y _ hN ev (.inr (.inl hk));rcases lk with ⟨z,_⟩ | ⟨_,c',hc',o,ho,hd⟩
       . rw [hk] at z;cases z
       . rw [hc] at hc';cases hc';refine ⟨o::os,by simp [l],fun p hp=>?_,fun H' hz=>?_⟩
         . rw [cX] at hp;rcases aD.mp hp with rfl | hp
           . exact ⟨I.freeC y c hc,ho,⟨y,hc⟩,_,hd⟩
           . exact a1 p hp
         . exact ⟨d,ds,o,u,rfl,hf,hz (c,o) (by rw [cX];exact ao),hd,ru,a2 H' fun p hp=>hz p (by rw [cX];exact aq _ hp)⟩
     . cases e
noncomputable def tLm (q:Str) (params:pL) (body:aI) (scope:en) (clos:List (Str × aw)):TE:=fun _ H Q=>ik H/\∀ (f c':aw) (oc:Obj) (vs:Array af) (tk:Tok) (pm ctv:af) (H':Hp),Sim H H'->ik H'->Fz H' f (PySem.W.kla_obj "<lambda>" q params body scope clos pm c' ctv)->Fz H' c' oc->oc.data = .fields vs->vs[1]? = some (.str q tk)->Q (.ref f) H'
theorem Ol (M:Mk X P q) (hcl:closureFor scope X.env = pure clos) (hdef:defaultsOf params X.env = ([],[])):PE X (.Lambda params body scope pos) (tLm q params body scope clos) :=
 fun pins s σ H Q I ⟨t,h⟩=>OC I M t hcl hdef h
theorem IA (e:evS cx (.retL f es n caps) δ = some o):∃ ds δ1 cs d,hZ cx es δ = some (ds,δ1)/\lY δ1 caps = some cs/\cx.hf f = true/\cx.call f (ds++[.fn n cs]) = some d/\lf d = true/\o = .rt d δ1:=by
 simp only [evS,ah,ae] at e;obtain ⟨⟨ds,δ1⟩,e1,cs,e2,e⟩:=e;dsimp only at e e2;split at e
 . rename_i hf;rw [aG] at e;obtain ⟨r,er,e⟩:=e;unfold lfO at er;split at er
   . split at er
     . rename_i r' q hl;cases er;exact ⟨ds,δ1,cs,r,e1,e2,hf,q,hl,e.symm⟩
     . cases er
   . cases er
 . cases e
theorem Ef {c:Ck} (C:Cok X c cx k) {f n:Nat} {es:Es} {caps:List Nat} {x:Str} {y:aI} {ys:List aI} {ps:List Str} {P:aw} {L:Lam} {cells:List aw} {p lp pos rp:Pos} (hL:Tbs.lams.lookup n = some L) (M:Mk X P L.qual) (hcl:closureFor L.scope X.env = pure (L.caps.zip cells)) (hdef:defaultsOf L.params X.env = ([],[]))
 (hcp:oO X caps L.caps cells) (hnd:L.caps.Nodup) (hfn:∀ y,X.fn y = true) (n0:ie es = true) (ef:c.fns[f]? = some (x,ps)) (hg:eU c x = true)
 (hA:∀ z tz,PE X z tz->starEach [z] X.env = (false,eval z X.env)::starEach [] X.env->PA X (y::(ys++[z])) (yu X.K cx es tz)) (he:∀ z,starEach (y::(ys++[z])) X.env = (false,eval y X.env)::starEach (ys++[z]) X.env)
 (hpl:∀ z,starEach [z] X.env = (false,eval z X.env)::starEach [] X.env->(backTo pos (starEach (ys++[z]) X.env)).any (·.1) = false) :
 PS X (.Return (some (.Call (.Name x p) (y::(ys++[.Lambda L.params L.body L.scope lp])) [] pos)) rp) (tS X.K (evS cx (.retL f es n caps))):=by
 obtain ⟨g1,g2,g3⟩:=C.global hg;intro pins s σ H E I hq;obtain ⟨G,F,δ,o,ok,ev,post⟩:=hq;obtain ⟨ds,δ1,cs,d,ea,ec,hf,er,hl,rfl⟩:=IA ev;refine Ny ?_;obtain ⟨a,fd,hm,hk,hb,fn⟩:=C.fnF f _ _ ef hf
 have fin:wpAny (model X.prog X.w) X.A (eval (.Call (.Name x p) (y::(ys++[.Lambda L.params L.body L.scope lp])) [] pos) X.env) (EP X pins σ fun v H'=>∃ F',Step G F H F' H'/\Ok X.K G F' σ H' δ1/\Rel X.K H' F' d v) X.xe s:=by
  refine gR (uP I g1 hm ?_ g2)
  refine PySem.W.callWith_K (h₀:=X.base) I.ok.mod.kin hk (thn (hA _ _ (Ol M hcl hdef) rfl pos pins s σ H (fun vs' H1=>∃ vs F1 fa c' oc ws tk pm ctv,vs' = vs++[.ref fa]/\Step G F H F1 H1/\Ok X.K G F1 σ H1 δ1/\aK X.K H1 F1 ds vs /\
   Fz H1 fa (PySem.W.kla_obj "<lambda>" L.qual L.params L.body L.scope (L.caps.zip cells) pm c' ctv)/\Fz H1 c' oc/\oc.data = .fields ws/\ws[1]? = some (.str L.qual tk)) I ⟨G,F,δ,ds,δ1,ok,ea,fun vs H1 F1 st1 sm1 ok1 r1=>⟨ok1.tabs,fun fa c' oc ws tk pm ctv H2 s2 t2 z1 z2 z3 z4=>?_⟩⟩) fun us s1 ⟨vs',H1,I1,r,q⟩=>⟨I1.kIn,?_⟩) (he _) (hpl _ rfl)
  . obtain ⟨ok2,st2⟩:=ok1.call s2 t2;exact ⟨vs,F1,fa,c',oc,ws,tk,pm,ctv,rfl,st1.trans st2,ok2,aK.step ok1.fd st2 ds vs (r1.rl n0),z1,z2,z3,z4⟩
  obtain ⟨vs,F1,fa,c',oc,ws,tk,pm,ctv,rfl,st,ok1,rl,z1,z2,z3,z4⟩:=q;obtain ⟨os,hol,a1,a2⟩:=AH I1 ok1 hcp ec;have nd:=(mz I1.ok.inj hcp hnd).1;have un0:Un0 H1 s1.heap (cells.zip os):=fun b o e=>⟨(a1 (b,o) (lookup_mem e)).1,(a1 (b,o) (lookup_mem e)).2.1⟩;have isc:∀ b o,(cells.zip os).lookup b = some o->∃ v,o.data = .cell v:=fun b o e=>(a1 (b,o) (lookup_mem e)).2.2.2
  have nfr:∀ b o,(cells.zip os).lookup b = some o->X.s₀.heap.objs.size<=b/\b∉frs X.stack:=fun b o e=>by
   obtain ⟨_,_,⟨w,hw⟩,_⟩:=a1 (b,o) (lookup_mem e);have hsz:=I1.ok.cab w b (hfn w) hw;refine ⟨hsz,fun z=>?_⟩;rcases aD.mp (I1.stkSub b z) with z | z
   . exact I1.cne w b hw z
   . obtain ⟨_,o',ho',_⟩:=I1.ok.funs.mem z;exact absurd (aW (az ho') hsz) (cy _)
  have nb:∀ b o,(cells.zip os).lookup b = some o->X.base.get? b = none/\b∉frs X.stack:=fun b o e=>⟨Ba (aX I1.ok.bsz (nfr b o e).1),(nfr b o e).2⟩;have sm1:=un0.same;have ok2:=ok1.same' sm1;have fv:FnV (kC H1 (cells.zip os)) n cs fa:=⟨L,pm,ctv,c',oc,ws,tk,cells,hL,sm1 _ _ z1,sm1 _ _ z2,z3,z4,nd,(mz I1.ok.inj hcp hnd).2,a2 _ fun p hp=>nL (ma nd hp)⟩
  have sp:BF X.K (cx.call f) (vs++[.ref fa]) (kC H1 (cells.zip os)) (fun v H'=>Sim (kC H1 (cells.zip os)) H'/\ik H'/\Rel X.K H' F1 d v) E0 :=
   ⟨F1,ds,vs,n,cs,fa,d,ok2.fd,ok2.tf,ok2.tabs,rfl,aK.step (G:=G) ok1.fd (Step.of_same sm1) ds vs rl,fv,er,fun v H' x1 x2 x3=>⟨x1,x2,x3⟩⟩
  have hl2:(us++([]:List af)).length = ps.length:=by rw [bX,<- r.length];exact fn.len _ _ _ _ sp
  have bb:=hb s1 us I1.kIn hl2;rw [bX] at bb;refine zc (iu (fn.run X.A X.stack s1 _ ⟨us,[]⟩ us _ _ E0 C.room (vw.add I1.env0 un0 nb) bb r sp) fun r s' hq=>?_)
  cases r with
  | error e=>exact hq.elim
  | ok fl =>
    cases fl with
    | next=>exact cI hq
    | brk=>exact cI hq
    | cont=>exact cI hq
    | ret u =>
      obtain ⟨v,H',I',rv,fz,x1,x2,x3⟩:=Inv.callF I1 un0 (fun b o e=>(nfr b o e).2) hq;obtain ⟨ok3,st3⟩:=ok1.call (Iq un0 x1) (vT x2 fz isc);exact ⟨v,_,I',rv,F1,st.trans st3,ok3,zK fz d v hl x3⟩
 exact thn fin fun u s1 ⟨v,H1,I1,rv,F1,st,ok1,rl⟩=>⟨v,σ,H1,I1,rv,post v σ H1 F1 st ok1 rl⟩
end
theorem qJ {K:PySem.W.Frag} {H:Hp} {F:aw->Prop} {ds:List D} {vs:List V} {N:List Str} (fd:FD F H) (tf:TF F) (tb:ik H) (r:aK K H F ds vs) (hl:vs.length<=N.length):Ok K ⟨H,fun b=>F b/\∃ o,H b = some o/\Mo o⟩ F (start N vs) H (init N.length ds):=by
 have hlen:=r.length
 have low:∀ (i:Nat) (s:Sl),(init N.length ds)[i]? = some s->s = .no\/∃ d,ds[i]? = some d/\s = .val d:=fun i s e=>by
  unfold init at e;by_cases hi:i < ds.length
  . rw [aL (by simpa using hi),bj,ax hi] at e;cases e;exact .inr ⟨_,ax hi,rfl⟩
  . rw [aS (by simp;lia),dn] at e;split at e
    . cases e;exact .inl rfl
    . cases e
 refine ⟨Sim.refl H,fd,fun b z=>z.1,fun b z=>z.2,tf,tb,?_,fun i s e=>?_,fun i j s t a e1 _ o1=>?_⟩
 . unfold init L2.start;simp only [ar,aj,cA]
   lia
 . rcases low i s e with rfl | ⟨d,e1,rfl⟩
   . trivial
   . obtain ⟨v,hv,rv⟩:=r.get e1;refine ⟨v,?_,rv⟩;unfold L2.start;have hi:i < vs.length:=(aF.mp hv).1;rw [aL (by simpa using hi),bj,hv];rfl
 . rcases low i _ e1 with z | ⟨d,_,z⟩<;>(subst z;cases o1)
section
variable {P:aR} {w:bf} {H H':Hp} {h h':bK} {cs:List (aw × Obj)} {F:aw->Prop}
theorem jE {b:aw} (e:H b = none):ig H cs b = none:=by
 cases q:cs.lookup b with
 | none=>rw [cK q];exact e
 | some o=>exact lL q
theorem Fz0.out (z:Fz0 H cs) (n:∀ o,H b≠some (fzO b o)):cs.lookup b = none:=by
 cases q:cs.lookup b with
 | none=>rfl
 | some o=>exact absurd (z b o q) (n o)
theorem Un.add (z:Fz0 H cs) (u:Un fs ex (ig H cs) H' h h') (c:Un0 H' h' cs):Un fs ex H (kC H' cs) h h':=by
 have out:∀ {b},H b = none->cs.lookup b = none:=fun {b} e=>z.out fun o q=>by rw [e] at q;cases q
 refine ⟨fun b o e n hb hx=>u.keep b o e (jE n) hb hx,fun b o e n hb hx=>u.slot b o e (jE n) hb hx,fun b o e n hx=>?_,u.there,fun b xs e=>?_,fun b o y e=>?_,fun b ps e=>?_⟩
 . rw [dk (out n)];exact u.free b o e (jE n) hx
 . have q:=z.out (b:=b) fun o q=>by rw [e] at q;cases q
   rw [dk q];exact u.tups b xs (by rw [cK q];exact e)
 . cases q:cs.lookup b with
   | none=>rw [dk q];exact u.frzs b o y (by rw [cK q];exact e)
   | some o'=>rw [nL q,<- z b o' q];exact e
 . have q:=z.out (b:=b) fun o q=>by rw [e] at q;cases q
   obtain ⟨more,x⟩:=u.tbls b ps (by rw [cK q];exact e);exact ⟨more,by rw [dk q];exact x⟩
theorem Ir (z:Fz0 H cs) (s:Sim (ig H cs) H'):Sim H (kC H' cs):=by
 refine ⟨fun b o n e=>?_,fun b ps e=>?_⟩
 . cases q:cs.lookup b with
   | none=>rw [dk q];exact s.nt b o n (by rw [cK q];exact e)
   | some o'=>rw [nL q,<- z b o' q];exact e
 . have q:=z.out (b:=b) fun o q=>by rw [e] at q;cases q
   obtain ⟨qs,x⟩:=s.tb b ps (by rw [cK q];exact e);exact ⟨qs,by rw [dk q];exact x⟩
theorem FD.del (fd:FD F H) (z:Fz0 H cs):FD F (ig H cs):=fun b hb=>by
 obtain ⟨u,e,m⟩:=fd b hb
 have nq:=z.out (b:=b) fun o q=>by
  rw [e] at q;cases q;rcases m with m | ⟨⟨ps,w⟩,_⟩
  . exact m
  . cases w
 exact ⟨u,by rw [cK nq];exact e,m⟩
theorem FD.sim (fd:FD F H) (s:Sim H H'):FD F H':=fun b hb=>by
 obtain ⟨u,e,m⟩:=fd b hb;rcases m with m | ⟨⟨ps,rfl⟩,t⟩
 . exact ⟨u,s.nt _ _ m.nt e,.inl m⟩
 . obtain ⟨qs,e⟩:=s.tb b ps e;exact ⟨_,e,.inr ⟨⟨qs,rfl⟩,t⟩⟩
end
theorem tJ {H:Hp}:∀ {cells:List aw} {cs:List D},lq H cells cs->∃ os:List Obj,os.length = cells.length/\cells.length = cs.length/\(∀ p∈cells.zip os,Fz H p.1 p.2/\∃ v,p.2.data = .cell v) /\
 ∀ (j:Nat) (c:aw) (d:D),cells[j]? = some c->cs[j]? = some d->∃ o u,Fz H c o/\o.data = .cell (some u)/\RelV (flV d) u/\flat d = true
 | [],cs,h=>by
   have h:cs = []:=h;subst h
   exact ⟨[],rfl,rfl,by simp,by simp⟩
 | c::r,cs,h=>by
   obtain ⟨d,ds',o,u,rfl,h1,h2,h3,h4,h5⟩:=h;obtain ⟨os,e1,e2,e3,e4⟩:=tJ h5;refine ⟨o::os,by simp [e1],by simp [e2],fun p hp=>?_,fun j c' d' q1 q2=>?_⟩
   . rw [cX] at hp;rcases aD.mp hp with rfl | hp
     . exact ⟨h2,_,h3⟩
     . exact e3 p hp
   . cases j with
     | zero=>cases q1;cases q2;exact ⟨o,u,h2,h3,h4,h1⟩
     | succ j=>exact e4 j c' d' (by simpa using q1) (by simpa using q2)
theorem Cq {K:PySem.W.Frag} {H:Hp} {F:aw->Prop} {d:D} (f:flat d = true):Rel K H F d (flV d):=by
 cases d<;>first | (unfold Rel;rfl) | (unfold flat at f;cases f)
theorem mn {β:Type}:∀ {l:List (Str × β)} {x:Str} {v:β},(l.map (·.1)).Nodup->(x,v)∈l->l.lookup x = some v
 | [],_,_,_,h=>by simp at h
 | (y,u)::l,x,v,n,h=>by
   rw [aP] at n;rcases aD.mp h with e | h
   . cases e;simp [List.lookup]
   . have:x≠y:=fun z=>(bQ.mp n).1 (by rw [<- z];exact aU.mpr ⟨(x,v),h,rfl⟩);have e:(x == y) = false:=by simpa using this
     rw [bY,e];exact mn (bQ.mp n).2 h
theorem pW {α β:Type}:∀ {l:List α} {m:List β} {j:Nat} {x:α} {v:β},l[j]? = some x->m[j]? = some v->(x,v)∈l.zip m
 | [],_,_,_,_,h,_=>by simp at h
 | _::_,[],_,_,_,_,h=>by simp at h
 | a::l,b::m,0,x,v,h,h'=>by cases h;cases h';exact ao
 | a::l,b::m,j+1,x,v,h,h'=>aq _ (pW (j:=j) (by simpa using h) (by simpa using h'))
theorem qw {α β:Type}:∀ {l:List α} {m:List β},l.length = m.length->(l.zip m).map (·.1) = l
 | [],_,_=>by simp
 | _::_,[],h=>by simp at h
 | a::l,b::m,h=>by simp [qw (l:=l) (m:=m) (by simpa using h)]
structure Ha (L:Lam):Prop where
 kind:L.scope.kind = .function
 co:L.scope.isCoroutine = false
 gen:L.scope.isGenerator = false
 nocell:∀ x∈L.scope.names,x.2≠.cell
 ploc:∀ x∈L.ps,L.scope.names.lookup x = some .local
 cfree:∀ x∈L.caps,L.scope.names.lookup x = some .free
 frees:∀ x∈L.scope.names,x.2 = .free->x.1∈L.caps
 nd:(L.ps++L.caps).Nodup
 bd:∀ (cl:List (Str × aw)) (pm cdv ct:af) (us:List af),us.length = L.ps.length->bindArgs (PySem.W.kla_fn "<lambda>" L.qual L.params L.body L.scope cl pm cdv ct) ⟨us,[]⟩ = pure (L.ps.zip us)
noncomputable def cxL (P:aR) (w:bf) (K:PySem.W.Frag) (mg:Str->Option af) (base:bK) (L:Lam) (f:aw) (cd:af) (cl:List (Str × aw)) (A:ba) (outer:List Env) (s:ai) (H:Hp):Cx where
 prog:=P
 w:=w
 K:=K
 mg:=mg
 base:=base
 A:=A.deeper (PySem.W.envX L.qual L.scope s.heap.objs.size f cd cl)
 N:=L.ps++L.caps
 s₀:=s
 H₀:=H
 env:=PySem.W.envX L.qual L.scope s.heap.objs.size f cd cl
 outer:=outer
 stack:=PySem.W.envX L.qual L.scope s.heap.objs.size f cd cl::outer
 ex:=[]
 calm:=true
 fn:=fun _=>false
 pn:=[]
 xe:=fun _ _=>False
theorem MC {P:aR} {w:bf} {K:PySem.W.Frag} {mg:Str->Option af} {base:bK} {n k:Nat} {f:List D->Option D} {L:Lam} {cx:Cl} {e:E} (hL:Tbs.lams.lookup k = some L) (lo:Ha L)
 (hE:∀ (a:aw) (cd:af) (cl:List (Str × aw)) (A:ba) (outer:List Env) (s:ai) (H:Hp),kD n (A.deeper (PySem.W.envX L.qual L.scope s.heap.objs.size a cd cl))->PE (cxL P w K mg base L a cd cl A outer s H) L.body (tE K cx e))
 (np0:bS e = false) (hf:∀ ds d,f ds = some d->ds.length = (L.ps++L.caps).length/\∃ δ',evE cx e (init (L.ps++L.caps).length ds) = some (d,δ')):JG P w K mg base (n+1) k f:=by
 intro A outer s H a us vs cs Q hr e0 rv fv hq;obtain ⟨L',pm,ctv,c',oc,ws,tk,cells,h1,fo,fc,hd,hv,cnd,clen,cv⟩:=fv;rw [hL] at h1;cases h1;obtain ⟨F,ds,d,fd,tf,tb,rl,lfl,er,lfd,post⟩:=hq;obtain ⟨os,e1,e2,e3,e4⟩:=tJ cv;obtain ⟨hlen,δ',ev⟩:=hf _ _ er;have lds:ds.length = L.ps.length:=by rw [ar,ar,<- e2,clen] at hlen;lia
 have lvs:vs.length = L.ps.length:=by rw [rl.length];exact lds
 have lus:us.length = L.ps.length:=by rw [<- rv.length];exact lvs
 have fz0:Fz0 H (cells.zip os):=fun b o q=>(e3 (b,o) (lookup_mem q)).1;have isc:∀ b o,(cells.zip os).lookup b = some o->∃ v,o.data = .cell v:=fun b o q=>(e3 (b,o) (lookup_mem q)).2;have hgo:∀ {b:aw} {o:Obj},Fz H b o->s.heap.get? b = some o:=fun {b o} z=>(e0.hok b _ z).1;have ho:=hgo fo;have hcd:s.heap.CodeRec (.ref c') L.qual:=⟨c',oc,ws,tk,rfl,hgo fc,hd,hv⟩;have lim:s.heap.NoLimit:=e0.mod.nolimit.keeps fun b o e=>(e0.bs b o e).1;have ndp:L.ps.Nodup:=(gJ.mp lo.nd).1;have ndc:L.caps.Nodup:=(gJ.mp lo.nd).2.1;have hok0:=HOk.del e0.hok fz0;refine PySem.W.kla_callFunE hr.depth ho rfl lo.co lo.gen rfl hcd ?_;rw [lo.bd _ _ _ _ us lus];have hloc:∀ y∈L.ps.zip us,L.scope.names.lookup y.1 = some .local:=fun ⟨y,u⟩ hy=>lo.ploc y (iL hy).1;refine ak (iZ lo.nocell hloc (fun h₁ hns hsb=>⟨lim.fresh _ hsb,?_⟩) lo.kind);show codeAny _ _ (.expr L.body (PySem.W.envX L.qual L.scope s.heap.objs.size a (.ref c') (L.caps.zip cells))) _ _;have hk₁:∀ b o,s.heap.get? b = some o->h₁.get? b = some o:=fun b o e=>hsb.extBut b o (aJ (az e)) (ag _ e);have clk:∀ (j:Nat) (x:Str) (c:aw),L.caps[j]? = some x->cells[j]? = some c->(L.caps.zip cells).lookup x = some c:=fun j x c q1 q2=>mn (by rw [qw clen.symm];exact ndc) (pW q1 q2)
 have cof:∀ x c,(L.caps.zip cells).lookup x = some c->∃ j,L.caps[j]? = some x/\cells[j]? = some c:=fun x c q=>by
  have hm:=PySem.mem_of_lookup q;obtain ⟨j,hj,ej⟩:=fI.mp hm;rw [List.getElem_zip] at ej;cases ej;rw [JO] at hj;exact ⟨j,ax (by lia),ax (by lia)⟩
 have cin:∀ (j:Nat) (c:aw),cells[j]? = some c->∃ o u dd,cs[j]? = some dd/\Fz H c o/\o.data = .cell (some u)/\RelV (flV dd) u/\(cells.zip os).lookup c = some o:=fun j c q=>by
  have hj:j < cells.length:=(aF.mp q).1;have q2:cs[j]? = some cs[j]:=ax (by lia);obtain ⟨o,u,z1,z2,z3,z4⟩:=e4 j c _ q q2;have q3:os[j]? = some os[j]:=ax (by lia);have hm:=pW q q3;have z5:=ma cnd hm;have z6:=(e3 _ hm).1;unfold Fz at z6;dsimp only at z6 z5;have z1':=z1;unfold Fz at z1';rw [z6] at z1';injection z1' with z1';injection z1' with z1';exact ⟨o,u,_,q2,z1,z2,z3,by rw [z5,z1']⟩
 -- the frame
 have I:Inv (cxL P w K mg base L a (.ref c') (L.caps.zip cells) A outer s (ig H (cells.zip os))) [] (L2.start (L.ps++L.caps) (vs++cs.map flV)) (ig H (cells.zip os)) { s with heap:=h₁,toks:=s.toks+(L.ps.zip us).length }:=by
  have noA:∀ b:aw,b∉(cxL P w K mg base L a (.ref c') (L.caps.zip cells) A outer s (ig H (cells.zip os))).ex:=fun b z=>absurd (show b∈([]:List aw) from z) (by simp)
  refine ⟨⟨e0.mod,lo.kind,rfl,rfl,aA _,fun x y c q1 q2=>?_,fun x hx=>?_,fun x c q=>(nomatch q),fun _=>hr.hd,yf e0.frames,.inr ⟨rfl,rfl⟩,fun b z=>absurd z (noA b),fun b o q=>⟨(e0.bs b o q).1,jE (e0.bs b o q).2⟩,e0.bsz,fun b _ _=>noA b,fun b z=>absurd z (noA b),e0.funs,fun b hb=>jE (e0.frf b hb)⟩,
   rfl,e0.bare,Un.kept hk₁,⟨_,hns,fun i x v q1 q2 q3=>?_⟩,fun x c q=>?_,hok0.fresh (aA _),fun x c q=>?_,fun p hp=>absurd (show p∈([]:List (aw × Obj)) from hp) (by simp),hok0.kept hk₁,?_⟩
  . obtain ⟨i,a1,a2⟩:=cof x c q1;obtain ⟨j,b1,b2⟩:=cof y c q2
    have:i = j:=by
     obtain ⟨h1,h2⟩:=aF.mp a2;obtain ⟨h3,h4⟩:=aF.mp b2;exact (Hu cnd).mp (h2.trans h4.symm)
    subst this;rw [a1] at b1;cases b1;rfl
  . have hx:L.scope.names.lookup x = some .cell\/L.scope.names.lookup x = some .free:=hx;rcases hx with hx | hx
    . exact absurd rfl (lo.nocell _ (PySem.mem_of_lookup hx))
    . have hm:=lo.frees _ (PySem.mem_of_lookup hx) rfl;obtain ⟨j,hj,ej⟩:=fI.mp hm;dsimp only at ej;exact ⟨cells[j]'(by lia),clk j x _ (by rw [<- ej];exact ax hj) (ax (by lia))⟩
  . have hi:i < (vs++cs.map flV).length:=by
     unfold L2.start at q2;by_cases hi:i < (vs++cs.map flV).length
     . exact hi
     . rw [aS (by rw [aj];lia),dn] at q2;split at q2<;>cases q2
    have hv':(vs++cs.map flV)[i]? = some v:=by
     unfold L2.start at q2;rw [aL (by rw [aj];exact hi),bj] at q2
     cases e:(vs++cs.map flV)[i]? with
     | none=>rw [e] at q2;cases q2
     | some a=>rw [e] at q2;cases q2;rfl
    have q1:(L.ps++L.caps)[i]? = some x:=q1;by_cases hp:i < L.ps.length
    . rw [aL hp] at q1;rw [aL (by lia)] at hv';obtain ⟨u,hu,ru⟩:=rv.get hv';refine ⟨u,ru,.inl ⟨lo.ploc x (bB q1),?_⟩⟩;exact mn (by rw [List.map_reverse,qw lus.symm];exact List.pairwise_reverse.mpr (ndp.imp fun z=>Ne.symm z)) (List.mem_reverse.mpr (pW q1 hu))
    . rw [aS (by lia)] at q1;rw [aS (by lia),bj,lvs] at hv';have hj:i - L.ps.length < L.caps.length:=(aF.mp q1).1;have hc:cells[i - L.ps.length]? = some (cells[i - L.ps.length]'(by lia)):=ax (by lia);obtain ⟨o,u,dd,x1,x2,x3,x4,x5⟩:=cin _ _ hc;rw [x1] at hv';cases hv';exact ⟨u,x4,.inr ⟨.inr (lo.cfree x (bB q1)),_,clk _ x _ q1 hc,o,hk₁ _ _ (hgo x2),x3⟩⟩
  . obtain ⟨j,a1,a2⟩:=cof x c q;obtain ⟨o,u,dd,x1,x2,x3,x4,x5⟩:=cin _ _ a2;exact ⟨_,o,hk₁ _ _ (hgo x2),x3⟩
  . obtain ⟨j,a1,a2⟩:=cof x c q;obtain ⟨o,u,dd,x1,x2,x3,x4,x5⟩:=cin _ _ a2;exact lL x5
  . unfold L2.start;show _ = (L.ps++L.caps).length;rw [ar,aj,cA];have:(vs++cs.map flV).length = (L.ps++L.caps).length:=by rw [ar,ar,aj];lia
    lia
 have rlc:∀ (cs':List D),(∀ dd∈cs',flat dd = true)->aK K (ig H (cells.zip os)) F cs' (cs'.map flV):=by
  intro cs'
  induction cs' with
  | nil=>intro _;exact aK.nil
  | cons x xs ih=>intro hh;exact aK.cons (Cq (hh x ao)) (ih fun y hy=>hh y (aq _ hy))
 have hflat:∀ dd∈cs,flat dd = true:=fun dd hd'=>by
  obtain ⟨j,hj,ej⟩:=fI.mp hd';obtain ⟨o,u,z1,z2,z3,z4⟩:=e4 j _ dd (ax (by lia)) (by rw [<- ej];exact ax hj);exact z4
 have rl2:aK K (ig H (cells.zip os)) F (ds++cs) (vs++cs.map flV):=aK.append (qM fz0 ds vs lfl rl) (rlc cs hflat);have ok:=qJ (N:=L.ps++L.caps) (fd.del fz0) tf (vT tb fz0 isc) rl2 (by rw [ar,ar,aj];lia)
 have pe:=hE a (.ref c') (L.caps.zip cells) A outer s (ig H (cells.zip os)) (hr.deeper _) [] _ _ _ (fun v H'=>∃ F',Ok K ⟨ig H (cells.zip os),fun b=>F b/\∃ o,ig H (cells.zip os) b = some o/\Mo o⟩ F' (L2.start (L.ps++L.caps) (vs++cs.map flV)) H' δ'/\Rel K H' F' d v) I
  ⟨_,F,_,d,δ',ok,ev,fun v H' F' st sm ok' r=>⟨F',ok',by rw [np0] at r;exact r⟩⟩
 refine PySem.W.kla_codeExpr (iV pe (fun u s' hp=>?_) fun e s' hp=>hp.elim);obtain ⟨v,H',J,rv',F',ok',r'⟩:=hp;have un:=J.base;have bz:∀ b o,(cells.zip os).lookup b = some o->s.heap.get? b = some o/\b∉frs outer:=fun b o q=>⟨hgo (fz0 b o q),fun z=>by have y:=fz0 b o q;rw [e0.frf b z] at y;cases y⟩;have c0:Un0 H' s'.heap (cells.zip os):=fun b o q=>⟨un.free b o (bz b o q).1 (lL q) (by intro z;exact absurd (show b∈([]:List aw) from z) (by simp)),un.keep b o (bz b o q).1 (lL q) (bz b o q).2 (by intro z;exact absurd (show b∈([]:List aw) from z) (by simp))⟩;have sim:Sim H (kC H' (cells.zip os)):=Ir fz0 ok'.same;refine ⟨v,kC H' (cells.zip os),J.os,J.bare,Un.add fz0 un c0,HOk.add J.hok c0,rv',post v _ sim (ok'.tabs.keep fun b o _ z=>c0.same b o z) ?_⟩;exact Rel.free (fd.sim sim) d v lfd (Rel.step (G:=g0) ok'.fd (Step.of_same c0.same) d v r')
structure Mkr (K:PySem.W.Frag) (cf:List (Str × List Str)) (gn:List Str) (fd:Fd) (st:de) (fdd:eB) where
 f:Nat
 es:Es
 k:Nat
 caps:List Nat
 x:Str
 ps:List Str
 y:aI
 ys:List aI
 p:Pos
 lp:Pos
 pos:Pos
 rp:Pos
 L:Lam
 c:aw
 P:aw
 cells:aw->List aw
 body:fd.body = .cons (.retL f es k caps) .nil
 text:eK st = [.Return (some (.Call (.Name x p) (y::(ys++[.Lambda L.params L.body L.scope lp])) [] pos)) rp]
 lam:Tbs.lams.lookup k = some L
 args:gH ⟨fd.ps++fd.loc,bI st,cf,gn⟩ es (y::ys) = true
 npk:ie es = true
 fn:cf[f]? = some (x,ps)
 gl:eU ⟨fd.ps++fd.loc,bI st,cf,gn⟩ x = true
 nd:L.caps.Nodup
 dft:∀ env,defaultsOf L.params env = ([],[])
 cl:∀ (l a:aw) (cd:af),closureFor L.scope (envOfC fd.name (bI st) l a cd) = pure (L.caps.zip (cells l))
 cp:∀ (X:Cx) (l a:aw) (cd:af),X.N = fd.ps++fd.loc->X.env = envOfC fd.name (bI st) l a cd->oO X caps L.caps (cells l)
 code:fdd.code = .ref c
 hd:PySem.W.codeHdIn K c P = true
 tb:(P,L.qual)∈Tbs.ts
 un:∀ t∈Tbs.ts,t.1 = P->t.2 = L.qual
 ql:fd.name++".<locals>."++"<lambda>" = L.qual
structure Dn (K:PySem.W.Frag) (mgv:Str->Option af) (cf:List (Str × List Str)) (gn:List Str) (fd:Fd) (st:de) (a:aw) (fdd:eB):Prop where
 fn:Fun K fd.name fd.name st a fdd
 mg:mgv fd.name = some (.ref a)
 sc:nR (fd.ps++fd.loc) fd.ps (bI st)
 ck:xD ⟨fd.ps++fd.loc,bI st,cf,gn⟩ fd.body (eK st) = true\/Nonempty (Mkr K cf gn fd st fdd)\/∀ (X:Cx) (cx:Cl) (k:Nat),Cok X ⟨fd.ps++fd.loc,bI st,cf,gn⟩ cx k->X.env.scope = bI st->X.env.blockKind = .function->X.K = K->X.mg = mgv->PSs X (eK st) (tS K (eV cx fd.body))
 bd:Binds K fdd fd.ps []
noncomputable def AO (K:PySem.W.Frag) (mg:Str->Option af) (cf:List (Str × List Str)) (gn:List Str):List Fd->Prop
 | []=>True
 | fd::r=>(∃ st a fdd,Dn K mg cf gn fd st a fdd)/\AO K mg cf gn r
theorem oM {K:PySem.W.Frag} {mg:Str->Option af} {cf:List (Str × List Str)} {gn:List Str}:∀ {G:List Fd} {i:Nat} {fd:Fd},AO K mg cf gn G->G[i]? = some fd->∃ st a fdd,Dn K mg cf gn fd st a fdd
 | [],_,_,_,e=>by simp at e
 | f::r,0,fd,h,e=>by
   cases e
   exact h.1
 | f::r,i+1,fd,h,e=>oM (i:=i) h.2 (by simpa using e)
noncomputable def pQ (G:List Fd):List (Str × List Str):=G.map fun fd=>(fd.name,fd.ps)
structure Ln (G Gd:List Fd) (gn:List Str) (k:Nat) (L:Lam):Prop where
 ok:Ha L
 fd:∃ fd e,G[k]? = some fd/\fd.ps = L.ps++L.caps/\fd.loc = []/\fd.body = .cons (.ret e) .nil/\fd.hf = false/\bS e = false/\ckE ⟨L.ps++L.caps,L.scope,pQ Gd,gn⟩ e L.body = true
structure Top (w:bf) (K:PySem.W.Frag) (mg:Str->Option af) (G Gd:List Fd) (gl:List D) (gn:List Str):Prop where
 fns:AO K mg (pQ Gd) gn Gd
 sub:∀ (i:Nat) (fd:Fd),Gd[i]? = some fd->G[i]? = some fd
 few:G.length<=uB
 lams:∀ (k:Nat) (L:Lam),Tbs.lams.lookup k = some L->Ln G Gd gn k L
 blt:∀ x,x∈jG->mg x = none
 glob:∀ (g:Nat) (x:Str) (d:D),gn[g]? = some x->gl[g]? = some d->∃ u v,mg x = some u/\RelV v u/\∀ H F,Rel K H F d v
 gsome:∀ (g:Nat) (x:Str),gn[g]? = some x->∃ d,gl[g]? = some d
 gds:∀ (n:Str) (l:List (Str × Int)),Tbs.gds.lookup n = some l->∃ a,mg n = some (.ref a)/\GdK w K a l
theorem BE {K:PySem.W.Frag} {H:Hp} {F:aw->Prop} {ds:List D} {vs:List V} {N:List Str} {k:Nat} {cs:List D} {a:aw} (fd:FD F H) (tf:TF F) (tb:ik H) (r:aK K H F ds vs) (fv:FnV H k cs a) (hl:vs.length+1<=N.length):Ok K ⟨H,fun b=>F b/\∃ o,H b = some o/\Mo o⟩ F (L2.start N (vs++[.ref a])) H (oZ N.length ds k cs):=by
 have hlen:=r.length
 have low:∀ (i:Nat) (s:Sl),(oZ N.length ds k cs)[i]? = some s->s = .no\/(∃ d,ds[i]? = some d/\s = .val d)\/(i = ds.length/\s = .fnc k cs):=fun i s e=>by
  unfold oZ at e;by_cases hi:i < ds.length
  . rw [aL (by simpa using hi),bj,ax hi] at e;cases e;exact .inr (.inl ⟨_,ax hi,rfl⟩)
  . rw [aS (by simp;lia),aj] at e
    cases q:i - ds.length with
    | zero =>
      rw [q] at e;cases e
      exact .inr (.inr ⟨by lia,rfl⟩)
    | succ m =>
      rw [q,kz,dn] at e;split at e
      . cases e;exact .inl rfl
      . cases e
 have at_:∀ (i:Nat) (v:V),(vs++[.ref a])[i]? = some v->(L2.start N (vs++[.ref a]))[i]? = some (some v):=fun i v e=>by
  unfold L2.start;have hi:i < (vs++[V.ref a]).length:=(aF.mp e).1;rw [aL (by rw [aj];exact hi),bj,e];rfl
 refine ⟨Sim.refl H,fd,fun b z=>z.1,fun b z=>z.2,tf,tb,?_,fun i s e=>?_,fun i j s t b e1 _ o1=>?_⟩
 . unfold oZ L2.start;simp only [ar,aj,cA,ay,aB]
   lia
 . rcases low i s e with rfl | ⟨d,e1,rfl⟩ | ⟨rfl,rfl⟩
   . trivial
   . obtain ⟨v,hv,rv⟩:=r.get e1;exact ⟨v,at_ i v (by rw [aL (aF.mp hv).1];exact hv),rv⟩
   . exact ⟨a,at_ _ _ (by rw [<- hlen,aS (aA _),zm];rfl),fv⟩
 . rcases low i _ e1 with z | ⟨d,_,z⟩ | ⟨_,z⟩<;>(subst z;cases o1)
theorem grow {K:PySem.W.Frag} {H H':Hp} {F F':aw->Prop} {σ:L2.St} {δ:Loc} (hfd:FD F H) (ok:Ok K ⟨H,fun b=>F b/\∃ o,H b = some o/\Mo o⟩ F' σ H' δ) (b:aw) (z:F b):F' b:=by
 obtain ⟨o,e,m | ⟨⟨ps,rfl⟩,t,ht,eb⟩⟩:=hfd b z
 . exact ok.rf b ⟨z,o,e,m⟩
 . rw [<- eb];exact ok.tf t ht
theorem okC {P:aR} {w:bf} {K:PySem.W.Frag} {mg:Str->Option af} {base:bK} {x qual:Str} {st:de} {f:aw} {fd:eB} {N ps:List Str} {k:Nat} {sp:Sp} (F:Fun K x qual st f fd) (S:nR N ps (bI st)) (len:∀ vs H Q E,sp vs H Q E->vs.length = ps.length)
 (hbody:∀ (A:ba) (outer:List Env) (s:ai) (H:Hp) (vs:List V) (Q:VK) (E:XK),kD k (A.deeper (envOfC qual (bI st) s.heap.objs.size f fd.code))->sp vs H Q E ->
   ∃ t,PSs (vc CX0 P w K mg base N qual (bI st) f fd.code A outer s H E).nox (eK st) t/\t { nx:=fun _ H'=>Q .non H',rt:=Q } (L2.start N vs) H):lP P w K mg base CX0 (k+1) f fd ps sp:=by
 obtain ⟨oc,od,kV,doc,pm,an,cdv,ct,osl,rfl,lk,hcd⟩:=F.ex;refine ON lk hcd S len fun A outer s H vs Q E hr hsp=>?_;obtain ⟨t,h,q⟩:=hbody A outer s H vs Q E hr hsp;exact ⟨t,h.nox,q⟩
section
variable {P:aR} {w:bf} {K:PySem.W.Frag} {mg:Str->Option af} {base:bK} {G Gd:List Fd} {gl:List D} {gn:List Str}
noncomputable def BM (mg:Str->Option af) (base:bK):Prop:=∃ bm ob,mg "__builtins__" = some (.ref bm)/\bm≠builtinsNs/\base.get? bm = some ob/\ob.cls = .type "module"/\ob.dict = some builtinsNs/\ob.data = .plain
theorem mR (e:G[i]? = some fd) (h:run G gl (n+1) i ds = some d):ds.length = fd.ps.length/\∃ δ,entry fd.hf (fd.ps++fd.loc).length ds = some δ/\outD (eV ⟨run G gl n,gl,hfs G⟩ fd.body δ) = some d:=by
 unfold run at h;rw [e] at h;dsimp only at h;split at h
 . cases q:entry fd.hf (fd.ps++fd.loc).length ds with
   | none=>rw [q] at h;cases h
   | some δ=>rw [q] at h;exact ⟨‹_›,δ,rfl,h⟩
 . cases h
theorem zT (few:G.length<=uB) (e:G[i]? = some fd) (h:run G gl (n+1) (i+uB) ds = some d):ds.length = fd.ps.length/\∃ δ,entry fd.hf (fd.ps++fd.loc).length ds = some δ/\LY (eV ⟨run G gl n,gl,hfs G⟩ fd.body δ) = some d:=by
 unfold run at h;rw [cS (by lia)] at h;dsimp only at h;rw [Nat.add_sub_cancel,e] at h;dsimp only at h;split at h
 . cases q:entry fd.hf (fd.ps++fd.loc).length ds with
   | none=>rw [q] at h;cases h
   | some δ=>rw [q] at h;exact ⟨(‹_/\_›).2,δ,rfl,h⟩
 . cases h
theorem sW (r:aK K H F ds vs) (e:ds.getLast? = some (.fn k cs)):False:=by
 rw [List.getLast?_eq_getElem?] at e;obtain ⟨v,_,rv⟩:=r.get e;unfold Rel at rv;exact rv
theorem wm (z:n = 0):run G gl n f ds = none:=by
 subst z;rfl
theorem GU (T:Top w K mg G Gd gl gn) (hK:K.In base) (hB:BM mg base):∀ n:Nat,(∀ (i:Nat) (fd:Fd) (st:de) (a:aw) (fdd:eB),Gd[i]? = some fd->Dn K mg (pQ Gd) gn fd st a fdd ->
 lP P w K mg base CX0 n a fdd fd.ps (spF K (run G gl n i))/\(fd.hf = true->lP P w K mg base CX0 n a fdd fd.ps (BF K (run G gl n i)))/\lP P w K mg base CX0 n a fdd fd.ps (spO K (run G gl n (i+uB)))) /\
 ∀ (k:Nat) (L:Lam),Tbs.lams.lookup k = some L->JG P w K mg base n k (run G gl n k)
 | 0=>by
   have z:∀ i ds d,run G gl 0 i ds≠some d:=fun i ds d h=>by unfold run at h;cases h
   refine ⟨fun i fd st a fdd e _=>⟨⟨fun vs H Q E h=>?_,fun A outer s H args us vs Q E _ _ _ _ h=>?_⟩,fun _=>⟨fun vs H Q E h=>?_,fun A outer s H args us vs Q E _ _ _ _ h=>?_⟩,⟨fun vs H Q E h=>?_,fun A outer s H args us vs Q E _ _ _ _ h=>?_⟩⟩,fun k L _ A outer s H a us vs cs Q _ _ _ _ h=>?_⟩
   . obtain ⟨F,ds,d,_,_,_,_,h1,_⟩:=h;exact (z _ _ _ h1).elim
   . obtain ⟨F,ds,d,_,_,_,_,h1,_⟩:=h;exact (z _ _ _ h1).elim
   . obtain ⟨F,ds,ws,k,cs,a,d,_,_,_,_,_,_,h1,_⟩:=h;exact (z _ _ _ h1).elim
   . obtain ⟨F,ds,ws,k,cs,a,d,_,_,_,_,_,_,h1,_⟩:=h;exact (z _ _ _ h1).elim
   . obtain ⟨F,ds,d,_,_,_,_,h1,_⟩:=h;exact (z _ _ _ h1).elim
   . obtain ⟨F,ds,d,_,_,_,_,h1,_⟩:=h;exact (z _ _ _ h1).elim
   . obtain ⟨F,ds,d,_,_,_,_,_,h1,_⟩:=h;exact (z _ _ _ h1).elim
 | n+1=>by
   obtain ⟨ih,il⟩:=GU T hK hB n
   have fns:∀ (f:Nat) (x:Str) (ps:List Str),(pQ Gd)[f]? = some (x,ps)->∃ gd st a fdd,gd.name = x/\gd.ps = ps/\Gd[f]? = some gd/\Dn K mg (pQ Gd) gn gd st a fdd:=fun f x ps hf=>by
    have hf':(Gd.map fun fd=>(fd.name,fd.ps))[f]? = some (x,ps):=hf;rw [bj,aG] at hf';obtain ⟨gd,eg,ep⟩:=hf';cases ep;obtain ⟨st',a',fdd',D'⟩:=oM T.fns eg;exact ⟨gd,st',a',fdd',rfl,rfl,eg,D'⟩
   have fn1:∀ (f:Nat) (x:Str) (ps:List Str),(pQ Gd)[f]? = some (x,ps)->∃ a fd,mg x = some (.ref a)/\PySem.W.keepIn K (.ref a) = true/\Binds K fd ps []/\lP P w K mg base CX0 n a fd ps (spF K (run G gl n f)):=fun f x ps hf=>by
    obtain ⟨gd,st,a,fdd,rfl,rfl,eg,D'⟩:=fns f x ps hf;exact ⟨a,fdd,D'.mg,D'.fn.kp,D'.bd,(ih f gd st a fdd eg D').1⟩
   have fn2:∀ (f:Nat) (x:Str) (ps:List Str),(pQ Gd)[f]? = some (x,ps)->hfs G f = true->∃ a fd,mg x = some (.ref a)/\PySem.W.keepIn K (.ref a) = true/\Binds K fd ps []/\lP P w K mg base CX0 n a fd ps (BF K (run G gl n f)):=fun f x ps hf hh=>by
    obtain ⟨gd,st,a,fdd,rfl,rfl,eg,D'⟩:=fns f x ps hf;refine ⟨a,fdd,D'.mg,D'.fn.kp,D'.bd,(ih f gd st a fdd eg D').2.1 ?_⟩;unfold hfs at hh;rw [T.sub f gd eg] at hh;exact hh
   have fn3:∀ (f:Nat) (x:Str) (ps:List Str),(pQ Gd)[f]? = some (x,ps)->∃ a fd,mg x = some (.ref a)/\PySem.W.keepIn K (.ref a) = true/\Binds K fd ps []/\lP P w K mg base CX0 n a fd ps (spO K (run G gl n (f+uB))):=fun f x ps hf=>by
    obtain ⟨gd,st,a,fdd,rfl,rfl,eg,D'⟩:=fns f x ps hf;exact ⟨a,fdd,D'.mg,D'.fn.kp,D'.bd,(ih f gd st a fdd eg D').2.2⟩
   have lm1:∀ (m:Nat) (cs:List D) (H:Hp) (a:aw),FnV H m cs a->JG P w K mg base n m (run G gl n m):=fun m cs H a fv=>by
    obtain ⟨L,_,_,_,_,_,_,_,hL,_⟩:=fv;exact il m L hL
   refine ⟨fun i fd st a fdd e Dd=>?_,fun k L hL=>?_⟩
   . have eG:=T.sub i fd e
     have C:∀ (A:ba) (outer:List Env) (s:ai) (H:Hp) (E:XK),kD n (A.deeper (envOfC fd.name (bI st) s.heap.objs.size a fdd.code)) ->
      Cok (vc CX0 P w K mg base (fd.ps++fd.loc) fd.name (bI st) a fdd.code A outer s H E).nox ⟨fd.ps++fd.loc,bI st,pQ Gd,gn⟩ ⟨run G gl n,gl,hfs G⟩ n:=fun A outer s H E hr =>
      ⟨rfl,Dd.sc.nd,fun x hx=>hx,fun x hx=>hx,fun x hx=>⟨hx,.inl rfl⟩,fun x hx=>hx,rfl,rfl,hr,fn1,fn2,fn3,lm1,T.blt,T.glob,T.gsome,T.gds,fun z f ds=>wm z⟩
     have B:∀ (A:ba) (outer:List Env) (s:ai) (H:Hp) (E:XK),kD n (A.deeper (envOfC fd.name (bI st) s.heap.objs.size a fdd.code)) ->
      PSs (vc CX0 P w K mg base (fd.ps++fd.loc) fd.name (bI st) a fdd.code A outer s H E).nox (eK st) (tS K (eV ⟨run G gl n,gl,hfs G⟩ fd.body)):=fun A outer s H E hr=>by
      have hblk:(vc CX0 P w K mg base (fd.ps++fd.loc) fd.name (bI st) a fdd.code A outer s H E).nox.env.blockKind = .function:=by
       unfold Env.blockKind;show (if (bI st).kind.isAnnotationScope then ScopeKind.function else (bI st).kind) = _;rw [Dd.sc.kind];rfl
      rcases Dd.ck with ck | M' | oq
      . exact sI (cx:=⟨run G gl n,gl,hfs G⟩) (C A outer s H E hr) rfl hblk fd.body (eK st) ck
      . cases M' with
        | intro M =>
        rw [M.text,M.body];have args:=M.args;have Cc:=C A outer s H E hr;refine sJ (Ef (P:=M.P) (cells:=M.cells s.heap.objs.size) Cc M.lam ⟨⟨M.c,M.code,PySem.W.codeHd_of_K hK M.hd⟩,M.ql,M.tb,M.un,hB⟩ (M.cl _ _ _) (M.dft _) (M.cp _ _ _ _ rfl rfl) M.nd (fun _=>rfl) M.npk M.fn M.gl (fun z tz hz hs=>yy M.es _ _ (M.y::M.ys) z tz Cc args (gU M.npk) hz hs) (fun z=>?_) fun z hz=>?_) wa
        . obtain ⟨_,_,_,a1,_⟩:=eO args;exact cG (cb a1) _ _
        . obtain ⟨_,_,_,_,a2⟩:=eO args;exact oi hz a2
      . exact oq _ _ n (C A outer s H E hr) rfl hblk rfl rfl
     have fin:∀ {F:aw->Prop} {H:Hp} {σ:L2.St} {δ:Loc} {d:D} {Q:VK} {E:XK} (hfd:FD F H) (htf:TF F) (ok:Ok K ⟨H,fun b=>F b/\∃ o,H b = some o/\Mo o⟩ F σ H δ) (h2:outD (eV ⟨run G gl n,gl,hfs G⟩ fd.body δ) = some d) (q:∀ v H',Sim H H'->ik H'->Rel K H' F d v->Q v H'),
      tS K (eV ⟨run G gl n,gl,hfs G⟩ fd.body) { nx:=fun _ H'=>Q .non H',rt:=Q } σ H:=fun {F H σ δ d Q E} hfd htf ok h2 q=>by
      cases eo:eV ⟨run G gl n,gl,hfs G⟩ fd.body δ with
      | none=>rw [eo] at h2;cases h2
      | some o =>
        rw [eo] at h2;refine ⟨⟨H,fun b=>F b/\∃ o,H b = some o/\Mo o⟩,F,_,o,ok,eo,?_⟩
        cases o with
        | nx δ =>
          cases h2
          exact fun σ' H' F' st' ok'=>q .non H' ok'.same ok'.tabs zJ
        | rt d' δ =>
          cases h2;refine fun v σ' H' F' st' ok' r'=>q v H' ok'.same ok'.tabs (Rel.step (G:=g0) ok'.fd ⟨fun _ _ _ e _=>e,fun b z=>?_,fun _ _ r _ _=>r.elim,fun _ ps e=>⟨ps,e⟩⟩ _ v r')
          exact .inl (grow hfd ok' b z)
        | ro ds' δ =>
          cases h2;refine fun a xs σ' H' F' st' ok' f1 f2 hs r'=>q _ H' ok'.same ok'.tabs ?_;exact iq.rel ok'.fd (grow hfd ok') (qZ hfd f2.1) hs r'
     have fiO:∀ {F:aw->Prop} {H:Hp} {σ:L2.St} {δ:Loc} {zs:D} {Q:VK} (hfd:FD F H) (htf:TF F) (ok:Ok K ⟨H,fun b=>F b/\∃ o,H b = some o/\Mo o⟩ F σ H δ) (h2:LY (eV ⟨run G gl n,gl,hfs G⟩ fd.body δ) = some zs) (q:∀ a u H',Sim H H'->ik H'->H a = none->H' a = some u->iq K H' (fun b=>F b\/b = a) zs u->Q (.ref a) H'),
      tS K (eV ⟨run G gl n,gl,hfs G⟩ fd.body) { nx:=fun _ H'=>Q .non H',rt:=Q } σ H:=fun {F H σ δ zs Q} hfd htf ok h2 q=>by
      cases eo:eV ⟨run G gl n,gl,hfs G⟩ fd.body δ with
      | none=>rw [eo] at h2;cases h2
      | some o =>
        rw [eo] at h2;refine ⟨⟨H,fun b=>F b/\∃ o,H b = some o/\Mo o⟩,F,_,o,ok,eo,?_⟩
        cases o with
        | ro ds' δ =>
          cases h2;refine fun a xs σ' H' F' st' ok' f1 f2 hs r'=>q a xs H' ok'.same ok'.tabs f2.1 hs ?_
          have gr:∀ b,(F b\/b = a)->F' b:=fun b z=>by
           rcases z with z | z
           . exact grow hfd ok' b z
           . rw [z];exact f1
          exact iq.step (G:=g0) ok'.fd ⟨fun _ _ _ e _=>e,fun b z=>.inl (gr b z),fun _ _ r _ _=>r.elim,fun _ ps e=>⟨ps,e⟩⟩ r'
        | _=>cases h2
     refine ⟨okC Dd.fn Dd.sc (fun vs H Q E h=>?_) fun A outer s H vs Q E hr h=>?_,fun hh=>okC Dd.fn Dd.sc (fun vs H Q E h=>?_) fun A outer s H vs Q E hr h=>?_,okC Dd.fn Dd.sc (fun vs H Q E h=>?_) fun A outer s H vs Q E hr h=>?_⟩
     . obtain ⟨F,ds,d,_,_,_,r,h1,_⟩:=h;rw [r.length,(mR eG h1).1]
     . obtain ⟨F,ds,d,hfd,htf,htb,r,h1,q⟩:=h;obtain ⟨hl,δ,ed,h2⟩:=mR eG h1;have hlen:=r.length;refine ⟨_,B A outer s H E hr,?_⟩;unfold entry at ed;split at ed
       . cases ed;exact fin (E:=E) hfd htf (qJ hfd htf htb r (by rw [hlen,hl,ar];lia)) h2 q
       . split at ed
         . rename_i eq;exact (sW r eq).elim
         . cases ed
     . obtain ⟨F,ds,ws,k,cs,b,d,_,_,_,rfl,r,_,h1,_⟩:=h;have:=(mR eG h1).1;rw [ar] at this ⊢;rw [r.length];exact this
     . obtain ⟨F,ds,ws,k,cs,b,d,hfd,htf,htb,rfl,r,fv,h1,q⟩:=h;obtain ⟨hl,δ,ed,h2⟩:=mR eG h1;have hlen:=r.length;refine ⟨_,B A outer s H E hr,?_⟩;rw [hh] at ed;unfold entry at ed;simp only [List.getLast?_concat,AZ] at ed;cases ed;rw [ar] at hl;exact fin (E:=E) hfd htf (BE hfd htf htb r fv (by rw [hlen,ar];simp at hl;lia)) h2 q
     . obtain ⟨F,ds,zs,_,_,_,r,h1,_⟩:=h;rw [r.length,(zT T.few eG h1).1]
     . obtain ⟨F,ds,zs,hfd,htf,htb,r,h1,q⟩:=h;obtain ⟨hl,δ,ed,h2⟩:=zT T.few eG h1;have hlen:=r.length;refine ⟨_,B A outer s H E hr,?_⟩;unfold entry at ed;split at ed
       . cases ed;exact fiO hfd htf (qJ hfd htf htb r (by rw [hlen,hl,ar];lia)) h2 q
       . split at ed
         . rename_i eq;exact (sW r eq).elim
         . cases ed
   . obtain ⟨lo,fd,e,eG,ep,el,eb,eh,pk,ck⟩:=T.lams k L hL;refine MC (cx:=⟨run G gl n,gl,hfs G⟩) (e:=e) hL lo (fun a cd cl A outer s H hr=>?_) pk fun ds d h1=>?_
     . refine dR e (cxL P w K mg base L a cd cl A outer s H) ⟨L.ps++L.caps,L.scope,pQ Gd,gn⟩ L.body (k:=n) ⟨rfl,lo.nd,fun x hx=>hx,fun x hx=>hx,fun x hx=>?_,fun x hx=>hx,rfl,rfl,hr,fn1,fn2,fn3,lm1,T.blt,T.glob,T.gsome,T.gds,fun z f ds=>wm z⟩ ck
       have:L.scope.names.lookup x = some .local:=by
        rcases hx with hx | hx
        . exact hx
        . exact absurd rfl (lo.nocell _ (PySem.mem_of_lookup hx))
       exact ⟨.inl this,.inr this⟩
     . obtain ⟨hl,δ,ed,h2⟩:=mR eG h1;rw [eh,ep,el,bX] at ed;rw [ep] at hl;cases ed;rw [eb] at h2;refine ⟨hl,?_⟩;simp only [eV,evS,ah] at h2
       cases q:evE ⟨run G gl n,gl,hfs G⟩ e (init (L.ps++L.caps).length ds) with
       | none=>rw [q] at h2;cases h2
       | some r =>
         rw [q] at h2;cases h2;exact ⟨r.2,rfl⟩
end
noncomputable def rxs (st:de):List aI:=match eK st with
 | [.Return (some (.Call _ xs _ _)) _]=>xs
 | _=>[]
noncomputable def rps (st:de):Pos × Pos × Pos:=match eK st with
 | [.Return (some (.Call (.Name _ p) _ _ q)) r]=>(p,q,r)
 | _=>(⟨0,0,0,0⟩,⟨0,0,0,0⟩,⟨0,0,0,0⟩)
noncomputable def rlm (st:de):aI:=(rxs st).getLastD (.Constant .none 0 ⟨0,0,0,0⟩)
noncomputable def PX:aI->pL
 | .Lambda a _ _ _=>a
 | _=>⟨[],[],none,[],[],none,[]⟩
noncomputable def PQ:aI->aI
 | .Lambda _ b _ _=>b
 | x=>x
noncomputable def PM:aI->en
 | .Lambda _ _ s _=>s
 | _=>{ kind:=.function,names:=[],isGenerator:=false,isCoroutine:=false,more:=[] }
noncomputable def PN:aI->Pos
 | .Lambda _ _ _ p=>p
 | _=>⟨0,0,0,0⟩
noncomputable def hS (a:aw) (o:Option HO):Hp:=fun b=>if b = a/\o.isSome = true then o else if b∈Tbs.ts.map (·.1) then some (.tbl #[]) else none
theorem uU (e:hS a o b = some u):(b = a/\o = some u)\/(b∈Tbs.ts.map (·.1)/\u = .tbl #[]):=by
 unfold hS at e;split at e
 . rename_i h;exact .inl ⟨h.1,e⟩
 . split at e
   . cases e;exact .inr ⟨‹_›,rfl⟩
   . cases e
theorem Jn {P:aR} {w:bf} {K:PySem.W.Frag} {mg mb:Str->Option af} {fa a:aw} {fd:eB} {x:Str} {f:List D->Option D} {s₁:ai} {vs:List af} {ns:List Int}
 (KX:K.In s₁.heap) (hns:s₁.heap.Ns mainGlobals mg) (hb:s₁.heap.Ns builtinsNs mb) (hbb:∀ x:Str,x≠"__name__"->mb x = bootBuiltins x) (hlim:s₁.heap.NoLimit) (hg:s₁.gens = #[]) (hbm:BM mg s₁.heap)
 (ha:s₁.heap.get? a = some { cls:=.type "list",data:=.seq vs.toArray }) (hi:Hm vs ns) (hl:ns.length<=sizeLine) (hr:kD 200 callerA)
 (ht:∀ t∈Tbs.ts,s₁.heap.get? t.1 = some (PySem.W.tabObj #[])/\K.lookup t.1 = none/\isCodeTable s₁.heap t.1)
 (F:∀ base:bK,K.In base->BM mg base->lP P w K mg base CX0 200 fa fd [x] (spF K f)) (hbind:Binds K fd [x] [])
 (hf:f [.lst (ns.map .int)] = some (.bl true)) :
 codeAny (model P w) callerA (.call (.ref fa) ⟨[.ref a],[]⟩) (fun r s'=>r = .ok (.ret (.bool true))/\OldK s₁.heap s'.heap/\s'.os = s₁.os/\mE s'.gens) s₁:=by
 have rv:=sG hi;have lenV:=hi.length
 have htm:∀ b,b∈Tbs.ts.map (·.1)->s₁.heap.get? b = some (PySem.W.tabObj #[])/\K.lookup b = none/\isCodeTable s₁.heap b:=fun b hb=>by
  obtain ⟨t,h1,h2⟩:=aU.mp hb;rw [<- h2];exact ht t h1
 have aT:a∉Tbs.ts.map (·.1):=fun z=>by
  have:=(htm a z).1;rw [ha] at this;cases this
 have core:∀ o:Option HO,(∀ u,o = some u->∃ xs,u = .frz { cls:=.type "list",data:=.seq vs.toArray } (.lst xs))->HOk P w (hS a o) s₁.heap->(o≠none->K.lookup a = none)->Rel K (hS a o) (fun b=>b∈Tbs.ts.map (·.1)) (.lst (ns.map .int)) (.ref a) ->
  codeAny (model P w) callerA (.call (.ref fa) ⟨[.ref a],[]⟩) (fun r s'=>r = .ok (.ret (.bool true))/\OldK s₁.heap s'.heap/\s'.os = s₁.os/\mE s'.gens) s₁:=by
  intro o hO hok hK hR;have base_of:∀ {b:aw} {x:Obj},s₁.heap.get? b = some x->hS a o b = none->(sf s₁.heap (hS a o)).get? b = some x:=fun e n=>Gm e n
  have noA:∀ {b:aw} {x:Obj},s₁.heap.get? b = some x->(∀ its n,x.data≠.seq its n)->(∀ vs,x.data≠.fields vs)->hS a o b = none:=fun {b x} e d1 d2=>by
   cases q:hS a o b with
   | none=>rfl
   | some u =>
     rcases uU q with ⟨rfl,_⟩ | ⟨z,_⟩
     . rw [ha] at e;cases e;exact absurd rfl (d1 _ _)
     . rw [(htm b z).1] at e;cases e;exact absurd rfl (d2 _)
  have nsK:∀ {b:aw} {m:Str->Option af},s₁.heap.Ns b m->(sf s₁.heap (hS a o)).Ns b m:=fun {b m} ⟨x,es,ep,e,d,r⟩=>⟨x,es,ep,base_of e (noA e (fun _ _ z=>by rw [d] at z;cases z) fun _ z=>by rw [d] at z;cases z),d,r⟩
  have hKb:K.In (sf s₁.heap (hS a o)):=fun b x e=>base_of (KX b x e) (by
   cases q:hS a o b with
   | none=>rfl
   | some u =>
     rcases uU q with ⟨rfl,z⟩ | ⟨z,_⟩
     . rw [hK (by rw [z];simp)] at e;cases e
     . rw [(htm b z).2.1] at e;cases e)
  have hM:Mod K mg (sf s₁.heap (hS a o)):=⟨hKb,nsK hns,⟨mb,nsK hb,hbb⟩,let ⟨mc,h1,h2⟩:=hlim;⟨mc,nsK h1,h2⟩⟩
  have hB:BM mg (sf s₁.heap (hS a o)):=by
   obtain ⟨bm,ob,b1,b2,b3,b4,b5,b6⟩:=hbm;exact ⟨bm,ob,b1,b2,base_of b3 (noA b3 (fun _ _ z=>by rw [b6] at z;cases z) fun _ z=>by rw [b6] at z;cases z),b4,b5,b6⟩
  have e0:vw P w K mg (sf s₁.heap (hS a o)) callerA [] s₁ (hS a o):=⟨rfl,hM,fun b x e=>Jg e,Nat.le_of_eq (Cm _ _),trivial,fun b hb=>absurd (show b∈([]:List aw) from hb) (by simp),hok,.of_eq hg⟩
  have atT:∀ b,b∈Tbs.ts.map (·.1)->hS a o b = some (.tbl #[]):=fun b z=>by
   unfold hS;rw [if_neg (fun y=>aT (by rw [<- y.1];exact z)),if_pos z]
  have sp:spF K f [.ref a] (hS a o) (fun v _=>v = .bl true) E0:=⟨fun b=>b∈Tbs.ts.map (·.1),[.lst (ns.map .int)],.bl true,fun b z=>by
   obtain ⟨t,h1,h2⟩:=aU.mp z;exact ⟨_,atT b z,.inr ⟨⟨#[],rfl⟩,t,h1,h2⟩⟩,fun t h=>aU.mpr ⟨t,h,rfl⟩,fun t h=>⟨#[],atT _ (aU.mpr ⟨t,h,rfl⟩),trivial,fun pos cv e=>by cases e⟩,aK.one hR,hf,fun v H' _ _ r=>by unfold Rel at r;exact r⟩
  refine iu ((F _ hKb hB).run callerA [] s₁ (hS a o) ⟨[.ref a],[]⟩ [.ref a] [.ref a] _ _ hr e0 (hbind s₁ [.ref a] KX rfl) (.cons rfl .nil) sp) fun r s' h=>?_
  cases r with
  | error e=>exact cI h
  | ok fl =>
    cases fl with
    | next=>exact cI h
    | brk=>exact cI h
    | cont=>exact cI h
    | ret u =>
      obtain ⟨v,H',os,bare,un,hok',r',q⟩:=h;have q':v = .bl true:=q;subst q';obtain rfl:u = kE true:=r';refine ⟨rfl,⟨fun b x e=>?_,fun b x e=>un.there b x e (by simp)⟩,os,bare⟩
      cases q:hS a o b with
      | none=>exact .inl (un.keep b x e q (by intro z;exact absurd (show b∈([]:List aw) from z) (by simp)) (by simp))
      | some u =>
        rcases uU q with ⟨_,z⟩ | ⟨z,rfl⟩
        . obtain ⟨xs,rfl⟩:=hO u z;have z2:=un.frzs b _ _ q;obtain ⟨e1,_⟩:=hok b _ q;obtain ⟨e2,_⟩:=hok' b _ z2;rw [e] at e1;cases e1;exact .inl e2
        . obtain ⟨more,y⟩:=un.tbls b _ q;have e2:s'.heap.get? b = some { cls:=.none,data:=.fields (#[]++more) }:=hok' b _ y;have e1:=(htm b z).1;rw [e] at e1;cases e1;exact .inr (.inl ⟨(htm b z).2.2,rfl,#[],more,rfl,e2⟩)
 have rl:∀ (H:Hp) (F:aw->Prop) (ms:List Int),aK K H F (ms.map .int) (ms.map V.int):=by
  intro H F ms
  induction ms with
  | nil=>exact aK.nil
  | cons m ms ih=>exact aK.cons (dC m) ih
 have hok1:∀ o:Option HO,(∀ u,o = some u->fe P w (hS a o) s₁.heap a u)->HOk P w (hS a o) s₁.heap:=fun o ho b u e=>by
  rcases uU e with ⟨rfl,z⟩ | ⟨z,rfl⟩
  . exact ho u z
  . exact (htm b z).1
 cases hk:K.lookup a with
 | some x =>
   have e:=KX a x hk;rw [ha] at e;cases e;refine core none (fun u z=>by cases z) (hok1 none fun u z=>by cases z) (fun z=>absurd rfl z) ?_;unfold Rel
   exact ⟨a,ns.map V.int,rfl,.inr ⟨vs.toArray,_,hk,by rw [aH,lenV];exact hl,by simpa using rv⟩,rl _ _ ns⟩
 | none =>
   refine core (some (.frz { cls:=.type "list",data:=.seq vs.toArray } (.lst (ns.map V.int)))) (fun u z=>⟨_,(aY z).symm⟩) (hok1 _ fun u z=>?_) (fun _=>hk) ?_
   . cases z;exact ⟨ha,by rw [aj];exact hl,vs,_,rv,ha⟩
   . unfold Rel;refine ⟨a,ns.map V.int,rfl,.inl ⟨.inr ⟨{ cls:=.type "list",data:=.seq vs.toArray },?_⟩,aT⟩,rl _ _ ns⟩;unfold hS;rw [if_pos ⟨rfl,rfl⟩]
theorem walk_run {l:PySem.W.OpenLaw} {q:aR} {loose:List Str} {XP:(Str->Option af)->bK->Prop} {YP:bf->bK->Prop} {d:DefRec} {K:Params->PySem.W.Frag} {G Gd:List Fd} {gl:List D} {gn:List Str} {i:Nat} {fd:Fd} {x:Str}
 (main:∀ ns:List Int,ns.length<=63->run G gl 200 i [.lst (ns.map .int)] = some (.bl true)) (hi:Gd[i]? = some fd) (hp:fd.ps = [x])
 (hn:l.most = some 63) (hdf:d.params.defaults = []) (hY:∀ (w:bf) (h:bK),YP w h->(K w.params).In h/\∀ t∈Tbs.ts,h.get? t.1 = some (PySem.W.tabObj #[]))
 (hnm:fd.name = d.name) (F:∀ (w:bf) (mg:Str->Option af) (h:bK),(K w.params).In h->h.Ns mainGlobals mg->Top w (K w.params) mg G Gd gl gn/\∀ t∈Tbs.ts,(K w.params).lookup t.1 = none/\∃ c,PySem.W.codeHdIn (K w.params) c t.1 = true) :
 PySem.W.WalkO q loose XP YP l.row.toRowW d [] (fun f vs=>PySem.call f vs):=by
 have hr:kD 200 callerA:=⟨rfl,by decide,by decide⟩;refine Att.attach_call hn hdf fun w s₀ s₁ mg mb fa o pm cd doc a vs ns TT Y ho hd hcd hmg hobj hints hlen hg=>?_;obtain ⟨KX,tabs⟩:=hY w _ Y;obtain ⟨T,tc⟩:=F w mg _ KX TT.T.g;obtain ⟨st,fa',fdd,Dd⟩:=oM T.fns hi
 obtain rfl:fa = fa':=by
  have e:=Dd.mg;rw [hnm,hmg] at e;cases e;rfl
 refine Jn KX TT.T.g TT.T.b TT.T.builtins TT.T.nolimit hg TT.T.bmain hobj hints (aX hlen (by decide)) hr (fun t ht=>?_) (fun base hK hB=>?_) (hp▸Dd.bd) (main ns hlen)
 . obtain ⟨h1,c,h2⟩:=tc t ht;exact ⟨tabs t ht,h1,((PySem.W.codeHd_of_K KX h2).tab (tabs t ht)).isCodeTable⟩
 . have:=((GU (P:=l.prog) (w:=w) (base:=base) T hK hB 200).1 i fd st fa fdd hi Dd).1;rw [hp] at this;exact this
section
noncomputable def yI (K:PySem.W.Frag) (x:Str):Bool:=match PySem.W.nsIn K mainGlobals x with
 | some none=>true
 | _=>false
theorem JE {K:PySem.W.Frag} {h:bK} {mg:Str->Option af} (X:K.In h) (G:h.Ns mainGlobals mg) (q:jG.all (yI K) = true) (x:Str) (hx:x∈jG):mg x = none:=by
 have h:=bx.mp q x hx;unfold yI at h;split at h
 . exact PySem.W.mg_none_of X G ‹_›
 . cases h
theorem sub_app {a b:List Fd} (i:Nat) (fd:Fd) (h:a[i]? = some fd):(a++b)[i]? = some fd:=by
 rw [aL (aF.mp h).1];exact h
end
end PP
end
section
namespace PP
open PySem L2
theorem vJ:∀ {ps:List Str} {us:List af} {x:Str},us.length = ps.length->x∈ps->((ps.zip us).lookup x).isSome = true
 | p::ps,u::us,x,hl,hx=>by
   rw [cX,bY];split
   . rfl
   . rename_i z;refine vJ (Nat.succ.inj hl) ((aD.mp hx).resolve_left fun e=>?_);rw [e,beq_self_eq_true] at z
     cases z
 | [],_,x,hl,hx=>by cases hx
 | p::ps,[],x,hl,hx=>by cases hl
theorem vI:∀ {ps:List Str} {us:List af},us.length = ps.length->ps.Nodup->(ps.filterMap fun n=>((ps.zip us).lookup n).map (n,·)) = ps.zip us
 | [],us,hl,_=>by rfl
 | p::ps,[],hl,_=>by cases hl
 | p::ps,u::us,hl,nd=>by
   rw [bQ] at nd;have ih:=vI (Nat.succ.inj hl) nd.2;rw [cX,dw,bY,beq_self_eq_true];dsimp only [Option.map];congr 1
   have h:∀ l:List Str,p∉l->(l.filterMap fun n=>((((p,u)::ps.zip us).lookup n).map (n,·))) = l.filterMap fun n=>((ps.zip us).lookup n).map (n,·):=fun l=>by
    induction l with
    | nil=>intro _;rfl
    | cons n l il =>
      intro hn;rw [aD,not_or] at hn;rw [dw,dw,il hn.2,bY,show (n == p) = false from beq_eq_false_iff_ne.mpr fun e=>hn.1 e.symm]
   exact (h ps nd.1).trans ih
theorem ifF {α:Type} {c:Prop} [Decidable c] {a b x:α} (h:¬ c) (e:b = x):(if c then a else b) = x:=by rw [if_neg h];exact e
theorem rO {fd:eB} {ps:List Str} {us:List af} (h1:fd.params.posonlyargs = []) (h2:fd.params.args.map (·.arg) = ps) (h3:fd.params.kwonlyargs = []) (h4:fd.params.vararg = none) (h5:fd.params.kwarg = none) (h6:fd.defaults = .none) (nd:ps.Nodup) (hl:us.length = ps.length):bindArgs fd ⟨us,[]⟩ = pure (ps.zip us):=by
 have hm:((ps.take ps.length).filter fun n=>((ps.zip us).lookup n).isNone) = []:=by
  rw [Hs,List.filter_eq_nil_iff];intro x hx;have:=vJ hl hx
  cases e:(ps.zip us).lookup x with
  | none=>rw [e] at this;cases this
  | some v=>simp
 cases fd with
 | mk a b p c d e f df g =>
   cases p with
   | mk p1 p2 p3 p4 p5 p6 p7 =>
     cases h1;cases h3;cases h4;cases h5;cases h6;cases h2;have hl:us.length = (p2.map (·.arg)).length:=hl;refine ifF (α:=Sem _) (fun z=>?_) ?_
     . have z:(decide (us.length > (p2.map (·.arg)).length) && true) = true:=z;rw [hl,nW,decide_eq_true_eq] at z;exact cy _ z
     generalize hd:List.drop _ _ = dd;obtain rfl:dd = []:=hd.symm.trans List.drop_nil;refine ifF (α:=Sem _) (fun z=>Bool.noConfusion ((congrArg (fun l:List Str=>!l.isEmpty) hm).symm.trans z)) ?_;generalize hz:List.zip (List.drop _ _) ([]:List af) = zz;obtain rfl:zz = []:=hz.symm.trans nY;have e:(p2.map Arg.arg++[]).filterMap (fun n=>(((p2.map Arg.arg).zip us).lookup n).map (n,·)) = (p2.map Arg.arg).zip us:=by rw [bX];exact vI hl nd
     exact congrArg (pure:_->Sem _) e
noncomputable def okD (d:Fd) (a:pL) (s:en):Bool :=
 a.posonlyargs.isEmpty && (a.kwonlyargs.isEmpty && (a.vararg.isNone && (a.kwarg.isNone && (decide (a.args.map (·.arg) = d.ps) && (decide (s.kind = .function) && ((!s.isCoroutine) && ((!s.isGenerator) && (decide (d.ps++d.loc).Nodup && (d.ps.all (fun x=>decide (s.names.lookup x = some .local) || decide (s.names.lookup x = some .cell)) && s.names.all fun y=>decide (y.2≠.free))))))))))
theorem Fu {d:Fd} {st:de} (h:okD d (gX st) (bI st) = true):nR (d.ps++d.loc) d.ps (bI st):=by
 simp only [okD,aa,cD,decide_eq_true_eq,bx,pJ] at h;obtain ⟨_,_,_,_,_,k,c,g,nd,p,f⟩:=h;exact ⟨k,c,g,nd,List.take_left,p,f⟩
theorem Fv {K:PySem.W.Frag} {d:Fd} {st:de} {x:Str} {f:aw} {fd:eB} (F:Fun K x x st f fd) (h:okD d (gX st) (bI st) = true):Binds K fd d.ps []:=by
 simp only [okD,aa,decide_eq_true_eq,List.isEmpty_iff,dF] at h;obtain ⟨h1,h2,h3,h4,h5,_,_,_,nd,_⟩:=h;exact F.binds fun kV doc pm an cdv ct us hl=>rO h1 h5 h2 h3 h4 rfl (gJ.mp nd).1 hl
section
variable [Tbs] {K:PySem.W.Frag} {h:bK} {w:bf} {mg:Str->Option af} {cf:List (Str × List Str)} {gn:List Str} {tp:Nat->de} {G Gd:List Fd} {gl:List D}
inductive Hds (K:PySem.W.Frag) (mg:Str->Option af) (cf:List (Str × List Str)) (gn:List Str) (tp:Nat->de):List Fd->List (String × Nat)->Prop
 | nil:Hds K mg cf gn tp [] []
 | own {d:Fd} {i:String × Nat} {r:List Fd} {is:List (String × Nat)} (e:∃ st a fdd,Dn K mg cf gn d st a fdd) (t:Hds K mg cf gn tp r is):Hds K mg cf gn tp (d::r) (i::is)
 | cons {d:Fd} {x:String} {i:Nat} {f:aw} {oc:af} {od an:Option aw} {osl:Array (Option af)} {kV doc pm cdv ct:af} {r:List Fd} {is:List (String × Nat)} (a:PySem.W.nsIn K mainGlobals (.ofString x) = some (some (.ref f))) (l:K.lookup f = some ⟨oc,od,.func (PySem.W.fnOf (.ofString x) (.ofString x) (gX (tp i)) (eK (tp i)) (bI (tp i)) .none kV doc pm an cdv ct),osl⟩)
   (c:PySem.W.codeIn K cdv (.ofString x) = true) (k:PySem.W.keepIn K (.ref f) = true) (z:(decide (d.name = .ofString x) && (okD d (gX (tp i)) (bI (tp i)) && xD ⟨d.ps++d.loc,bI (tp i),cf,gn⟩ d.body (eK (tp i)))) = true) (t:Hds K mg cf gn tp r is):Hds K mg cf gn tp (d::r) ((x,i)::is)
theorem Jx (X:K.In h) (N:h.Ns mainGlobals mg) {l:List Fd} {is:List (String × Nat)} (H:Hds K mg cf gn tp l is):AO K mg cf gn l:=by
 induction H with
 | nil=>trivial
 | own e t ih=>exact ⟨e,ih⟩
 | cons a l c k z t ih =>
   rw [aa,decide_eq_true_eq,aa] at z;obtain ⟨z0,z1,z2⟩:=z;rw [<- z0] at a l c;have F:=Gu l c k;exact ⟨⟨_,_,_,F,PySem.W.mg_of X N a,Fu z1,.inl z2,Fv F z1⟩,ih⟩
mutual
inductive InK (K:PySem.W.Frag):D->af->Prop
 | str {x:Str} {t:Tok}:InK K (.str x) (.str x t)
 | int {x:Int} {t:Tok}:InK K (.int x) (.int x t)
 | tup {ds:List D} {a:aw} {oD:Option aw} {oS:Array (Option af)} {n:Nat} {vs:Array af} (l:K.lookup a = some ⟨.type "tuple",oD,.seq vs n,oS⟩) (q:InKs K ds vs.toList) (z:vs.size<=99):InK K (.tup ds) (.ref a)
inductive InKs (K:PySem.W.Frag):List D->List af->Prop
 | nil:InKs K [] []
 | cons {d:D} {v:af} {ds:List D} {vs:List af} (e:InK K d v) (t:InKs K ds vs):InKs K (d::ds) (v::vs)
end
mutual
theorem InK.rel:∀ {d:D} {u:af},InK K d u->∃ v,RelV v u/\∀ H F,Rel K H F d v
 | _,_,.str=>⟨.str _,⟨_,rfl⟩,fun H F=>iA _⟩
 | _,_,.int=>⟨.int _,⟨_,rfl⟩,fun H F=>dC _⟩
 | _,_,.tup l q z=>by
   obtain ⟨vs,h1,h2⟩:=q.rel;refine ⟨.ref _,rfl,fun H F=>?_⟩;unfold Rel;exact ⟨_,vs,rfl,.inr ⟨_,_,_,l,rfl,rfl,aX z (by decide),h1⟩,h2 H F⟩
theorem InKs.rel:∀ {ds:List D} {us:List af},InKs K ds us->∃ vs,Vals vs us/\∀ H F,aK K H F ds vs
 | _,_,.nil=>⟨[],.nil,fun _ _=>aK.nil⟩
 | _,_,.cons e t=>by
   obtain ⟨v,h1,h2⟩:=e.rel;obtain ⟨vs,h3,h4⟩:=t.rel;exact ⟨v::vs,.cons h1 h3,fun H F=>aK.cons (h2 H F) (h4 H F)⟩
end
inductive Gls (K:PySem.W.Frag):List Str->List D->Prop
 | nil:Gls K [] []
 | cons {x:Str} {d:D} {v:af} {xs:List Str} {ds:List D} (a:PySem.W.nsIn K mainGlobals x = some (some v)) (e:InK K d v) (t:Gls K xs ds):Gls K (x::xs) (d::ds)
theorem As (X:K.In h) (N:h.Ns mainGlobals mg) (H:Gls K gn gl):∀ (g:Nat) (x:Str),gn[g]? = some x->∃ d,gl[g]? = some d/\∃ u v,mg x = some u/\RelV v u/\∀ H F,Rel K H F d v:=by
 induction H with
 | nil=>intro g x e;cases g<;>cases e
 | cons a e t ih =>
   intro g x z
   cases g with
   | zero =>
     cases z;obtain ⟨v,h1,h2⟩:=e.rel
     exact ⟨_,rfl,_,v,PySem.W.mg_of X N a,h1,h2⟩
   | succ g=>exact ih g x z
theorem FQ {l:List (Nat × Lam)} {k:Nat} {L:Lam} (h:l.lookup k = some L):(k,L)∈l:=by
 induction l with
 | nil=>cases h
 | cons p l ih =>
   rw [bY] at h;split at h
   . rename_i z;cases h;rw [eq_of_beq z];exact ao
   . exact aq _ (ih h)
theorem top_mk (X:K.In h) (N:h.Ns mainGlobals mg) {is:List (String × Nat)} (H:Hds K mg (pQ Gd) gn tp Gd is) (sub:∀ (i:Nat) (fd:Fd),Gd[i]? = some fd->G[i]? = some fd) (few:G.length<=uB) (lams:∀ p∈Tbs.lams,Ln G Gd gn p.1 p.2) (hb:jG.all (yI K) = true) (hg:Gls K gn gl)
 (gds:∀ (n:Str) (l:List (Str × Int)),Tbs.gds.lookup n = some l->∃ a,mg n = some (.ref a)/\GdK w K a l):Top w K mg G Gd gl gn :=
 ⟨Jx X N H,sub,few,fun k L e=>lams (k,L) (FQ e),JE X N hb,fun g x d h1 h2=>by
   obtain ⟨d',e,r⟩:=As X N hg g x h1;rw [h2] at e;cases e;exact r,fun g x h1=>by
   obtain ⟨d',e,r⟩:=As X N hg g x h1;exact ⟨d',e⟩,gds⟩
end
end PP
end
section
namespace PP
open PySem
section
variable {cx:Cl} {δ:Loc}
noncomputable def wEm (f:D->Loc->Option (List D × Loc)) (ds:List D) (δ:Loc) (Q:List D->Loc->Prop):Prop:=∃ ys δ',gI f ds δ = some (ys,δ')/\Q ys δ'
theorem zq:wE cx (.sset k tg1 src1 tg2 src2 ifs elt) δ Q↔wI cx src1 δ fun ds δ1=>wEm (outF cx k tg1 tg2 src2 ifs elt) ds δ1 fun ys δ2=>∃ xs,fS ys = some xs/\(xs.length < 4000/\(ia xs).length < 64)/\Q (.lst (dh ((ia xs).map .str))) δ2:=by
 unfold wE wI wEm;constructor
 . rintro ⟨d,δ',e,q⟩
   letI:Tbs:=⟨[],[],[]⟩
   obtain ⟨ds,δ1,ys,xs,e1,e2,e3,h1,h2,rfl⟩:=zy e;exact ⟨ds,δ1,e1,ys,δ',e2,xs,e3,⟨h1,h2⟩,q⟩
 . rintro ⟨ds,δ1,e1,ys,δ2,e2,xs,e3,hh,q⟩;refine ⟨_,δ2,?_,q⟩;unfold evE;show ((evI cx src1 δ).bind _) = _;rw [e1];show ((gI (outF cx k tg1 tg2 src2 ifs elt) ds δ1).bind _) = _;rw [e2];show (match fS ys with | some xs=>if xs.length < 4000/\(ia xs).length < 64 then some (D.lst (dh ((ia xs).map .str)),δ2) else none | none=>none) = _;rw [e3];exact if_pos hh
theorem qy {α:Type} (g:α->D) (h:α->List D):∀ (xs:List α),(∀ x∈xs,wTg (δ++aC k .no) tg1 (g x) fun δa=>wI cx src2 δa fun es δb=>wEm (inF cx tg2 ifs elt) es δb fun zs δc=>zs = h x/\δc.take δ.length = δ) ->
 Q (xs.flatMap h) δ->wEm (outF cx k tg1 tg2 src2 ifs elt) (xs.map g) δ Q
 | [],_,q=>⟨[],δ,rfl,q⟩
 | x::xs,hx,q=>by
   obtain ⟨δa,e1,es,δb,e2,zs,δc,e3,rfl,t⟩:=hx x ao;obtain ⟨ys,δ',e4,q'⟩:=qy (k:=k) (tg1:=tg1) (tg2:=tg2) (src2:=src2) (ifs:=ifs) (elt:=elt) (Q:=fun ys δ'=>Q (h x++ys) δ') g h xs (fun z hz=>hx z (aq _ hz)) (by rw [pF] at q;exact q);refine ⟨h x++ys,δ',?_,q'⟩
   have eo:outF cx k tg1 tg2 src2 ifs elt (g x) δ = some (h x,δ):=by
    unfold outF;simp only [ah,e1,fH,e2,e3,t,dM]
   rw [aP];unfold gI;simp only [ah,eo,fH,e4,dM]
theorem pX {α:Type} (g:α->D) (p:α->Bool) (v:α->D) (P:Loc->Prop):∀ (xs:List α) (δ:Loc),(∀ x∈xs,∀ δ,P δ->wTg δ tg (g x) fun δ2=>wG cx ifs δ2 fun b δ3=>b = p x/\if b = true then wE cx elt δ3 fun y δ4=>y = v x/\P δ4 else P δ3)->P δ ->
 (∀ δ',P δ'->Q ((xs.filter p).map v) δ')->wEm (inF cx tg ifs elt) (xs.map g) δ Q
 | [],δ,_,hp,q=>⟨[],δ,rfl,q δ hp⟩
 | x::xs,δ,hx,hp,q=>by
   obtain ⟨δ2,e1,b,δ3,e2,rfl,e3⟩:=hx x ao δ hp
   cases hb:p x with
   | true =>
     rw [hb] at e2 e3;rw [if_pos rfl] at e3;obtain ⟨y,δ4,e4,rfl,p4⟩:=e3;obtain ⟨ys,δ',e5,q'⟩:=pX (tg:=tg) (ifs:=ifs) (elt:=elt) (Q:=fun ys δ'=>Q (v x::ys) δ') g p v P xs δ4 (fun z hz=>hx z (aq _ hz)) p4 (fun δ' z=>by have:=q δ' z;rw [xU hb] at this;exact this);refine ⟨v x::ys,δ',?_,q'⟩
     have eo:inF cx tg ifs elt (g x) δ = some ([v x],δ4):=by
      unfold inF;simp only [ah,e1,fH,e2,if_true,e4,dM]
     rw [aP];unfold gI
     simp only [ah,eo,fH,e5,dM,fR,cC]
   | false =>
     rw [hb] at e2 e3;rw [if_neg au] at e3;obtain ⟨ys,δ',e5,q'⟩:=pX (tg:=tg) (ifs:=ifs) (elt:=elt) (Q:=Q) g p v P xs δ3 (fun z hz=>hx z (aq _ hz)) e3 (fun δ' z=>by have:=q δ' z;rw [xV (by simp [hb])] at this;exact this);refine ⟨ys,δ',?_,q'⟩
     have eo:inF cx tg ifs elt (g x) δ = some ([],δ3):=by
      unfold inF;simp only [ah,e1,fH,e2,aO,if_false,dM]
     rw [aP];unfold gI;simp only [ah,eo,fH,e5,dM,cC]
end
theorem strs_map (xs:List Str):fS (xs.map .str) = some xs:=by
 induction xs with
 | nil=>rfl
 | cons x xs ih=>simp [fS,ih]
theorem FF:y∈ko ts x↔y∈ts\/y = x:=by
 unfold ko;split
 . rename_i h;exact ⟨.inl,fun z=>z.elim id fun e=>e▸h⟩
 . simp
theorem sZ:∀ (xs ts:List Str),y∈xs.foldl ko ts↔y∈ts\/y∈xs
 | [],ts=>by simp
 | x::xs,ts=>by
   rw [dN,sZ xs,FF,aD];constructor
   . rintro ((h | h) | h)
     . exact .inl h
     . exact .inr (.inl h)
     . exact .inr (.inr h)
   . rintro (h | h | h)
     . exact .inl (.inl h)
     . exact .inl (.inr h)
     . exact .inr h
theorem wR {y:Str} {xs:List Str}:y∈ia xs↔y∈xs:=by
 unfold ia;rw [sZ];simp
theorem yK (h:ts.Nodup):(ko ts x).Nodup:=by
 unfold ko;split
 . exact h
 . rename_i hx;rw [gJ];refine ⟨h,by simp,fun a ha b hb=>?_⟩;rw [bU] at hb;intro e;exact hx (by rw [<- hb,<- e];exact ha)
theorem yJ (xs:List Str):(ia xs).Nodup:=by
 unfold ia
 suffices h:∀ (xs ts:List Str),ts.Nodup->(xs.foldl ko ts).Nodup from h xs [] (by simp)
 intro xs
 induction xs with
 | nil=>intro ts h;exact h
 | cons x xs ih=>intro ts h;exact ih _ (yK h)
noncomputable def sdT (xs:List Str):List Str:=((gc (ia xs)).choose)
theorem EE (xs:List Str):dh ((ia xs).map .str) = (sdT xs).map .str:=(gc (ia xs)).choose_spec.1
theorem uq:y∈sdT xs↔y∈xs:=by
 rw [show y∈sdT xs↔y∈ia xs from (gc (ia xs)).choose_spec.2.1.mem_iff,wR]
theorem Iy (xs:List Str):(sdT xs).length = (ia xs).length:=(gc (ia xs)).choose_spec.2.1.length_eq
theorem sub_len:∀ {l ns:List Str},l.Nodup->(∀ x∈l,x∈ns)->l.length<=ns.length
 | [],_,_,_=>cu _
 | x::l,ns,h,hs=>by
   rw [bQ] at h;have hx:=hs x ao;have ih:=sub_len (l:=l) (ns:=ns.erase x) h.2 fun y hy=>(AX fun e=>h.1 (by rw [<- e];exact hy)).mpr (hs y (aq _ hy));rw [vD hx] at ih;have:0 < ns.length:=xZ hx;rw [ay];omega
theorem oG {xs ns:List Str} (h:∀ x∈xs,x∈ns):(ia xs).length<=ns.length:=by
 have h1:=yJ xs;have h2:∀ x∈ia xs,x∈ns:=fun x hx=>h x (wR.mp hx);exact sub_len h1 h2
theorem gC (h:ltD a b = some k):(∃ i j:Int,a = .int i/\b = .int j/\k = decide (i < j))\/(∃ s t:Str,a = .str s/\b = .str t/\k = ltS s t)\/∃ xs ys,a = .tup xs/\b = .tup ys/\dX xs ys = some k:=by
 unfold ltD at h;split at h
 . cases h;exact .inl ⟨_,_,rfl,rfl,rfl⟩
 . cases h;exact .inr (.inl ⟨_,_,rfl,rfl,rfl⟩)
 . exact .inr (.inr ⟨_,_,rfl,rfl,h⟩)
 . cases h
theorem eN {x y:D} {xs ys:List D} (hx:hb x = true) (hy:hb y = true):dX (x::xs) (y::ys) = some k↔(x = y/\dX xs ys = some k)\/(x≠y/\ltD x y = some k):=by
 rw [show dX (x::xs) (y::ys) = if eqD x y = true then dX xs ys else ltD x y from by rw [dX]];by_cases e:x = y
 . rw [if_pos ((gE x y hx hy).mpr e)];exact ⟨fun h=>.inl ⟨e,h⟩,fun h=>h.elim (·.2) fun z=>absurd e z.1⟩
 . rw [if_neg fun z=>e ((gE x y hx hy).mp z)];exact ⟨fun h=>.inr ⟨e,h⟩,fun h=>h.elim (fun z=>absurd z.1 e) (·.2)⟩
noncomputable def LtA (a:D):Prop:=∀ b k k',hb a = true->hb b = true->ltD a b = some k->ltD b a = some k'->(a = b/\k = false/\k' = false)\/(a≠b/\k' = !k)
noncomputable def LtT (a:D):Prop:=∀ b c k,hb a = true->hb b = true->hb c = true->ltD b a = some false->ltD c b = some false->ltD c a = some k->k = false
theorem kX (h:hbL (x::xs) = true):hb x = true/\hbL xs = true:=by
 unfold hbL at h
 rwa [aa] at h
theorem wV:∀ (xs ys:List D) (k k':Bool),(∀ x∈xs,LtA x)->hbL xs = true->hbL ys = true->dX xs ys = some k->dX ys xs = some k'->(xs = ys/\k = false/\k' = false)\/(xs≠ys/\k' = !k)
 | [],[],k,k',_,_,_,h,h'=>by
   unfold dX at h h';cases h;cases h'
   exact .inl ⟨rfl,rfl,rfl⟩
 | [],_::_,k,k',_,_,_,h,h'=>by
   unfold dX at h h';cases h;cases h'
   exact .inr ⟨by simp,rfl⟩
 | _::_,[],k,k',_,_,_,h,h'=>by
   unfold dX at h h';cases h;cases h'
   exact .inr ⟨by simp,rfl⟩
 | x::xs,y::ys,k,k',hA,h1,h2,h,h'=>by
   obtain ⟨a1,a2⟩:=kX h1;obtain ⟨b1,b2⟩:=kX h2;rcases (eN a1 b1).mp h with ⟨rfl,g⟩ | ⟨e,g⟩
   . rcases (eN b1 a1).mp h' with ⟨_,g'⟩ | ⟨e',_⟩
     . rcases wV xs ys k k' (fun z hz=>hA z (aq _ hz)) a2 b2 g g' with ⟨rfl,q⟩ | ⟨n,q⟩
       . exact .inl ⟨rfl,q⟩
       . exact .inr ⟨fun z=>n (List.cons.inj z).2,q⟩
     . exact absurd rfl e'
   . rcases (eN b1 a1).mp h' with ⟨e',_⟩ | ⟨_,g'⟩
     . exact absurd e'.symm e
     . rcases hA x ao y k k' a1 b1 g g' with ⟨z,_⟩ | ⟨_,q⟩
       . exact absurd z e
       . exact .inr ⟨fun z=>e (List.cons.inj z).1,q⟩
theorem rK:∀ {xs:List D},x∈xs->dep x<=bZ xs
 | y::ys,h=>by
   unfold bZ;rcases aD.mp h with rfl | h
   . exact sA _ _
   . exact aX (rK h) (rV _ _)
theorem uM:∀ (n:Nat) (a:D),dep a<=n->LtA a
 | n,a,hn,b,k,k',ha,hb',h,h'=>by
   rcases gC h with ⟨i,j,rfl,rfl,rfl⟩ | ⟨s,t,rfl,rfl,rfl⟩ | ⟨xs,ys,rfl,rfl,h⟩
   . rcases gC h' with ⟨i',j',e1,e2,rfl⟩ | ⟨_,_,e,_⟩ | ⟨_,_,e,_⟩
     . cases e1;cases e2;by_cases e:i = j
       . subst e;exact .inl ⟨rfl,by simp,by simp⟩
       . refine .inr ⟨fun z=>e (D.int.inj z),?_⟩;by_cases l:i < j
         . rw [decide_eq_true l,decide_eq_false (by lia)];rfl
         . rw [decide_eq_false l,decide_eq_true (by lia)];rfl
     . cases e
     . cases e
   . rcases gC h' with ⟨_,_,e,_⟩ | ⟨s',t',e1,e2,rfl⟩ | ⟨_,_,e,_⟩
     . cases e
     . cases e1;cases e2;by_cases e:s = t
       . subst e
         have:ltS s s = false:=by
          cases z:ltS s s with
          | false=>rfl
          | true=>have:=yO _ _ z;rw [z] at this;cases this
         exact .inl ⟨rfl,this,this⟩
       . refine .inr ⟨fun z=>e (D.str.inj z),?_⟩
         cases z:ltS s t with
         | true=>exact yO _ _ z
         | false =>
           cases z':ltS t s with
           | true=>rfl
           | false=>exact absurd (FI _ _ z z') e
     . cases e
   . rcases gC h' with ⟨_,_,e,_⟩ | ⟨_,_,e,_⟩ | ⟨xs',ys',e1,e2,h'⟩
     . cases e
     . cases e
     . cases e1;cases e2;unfold hb at ha hb';have hd:bZ xs+1<=n:=by unfold dep at hn;exact hn
       cases n with
       | zero=>lia
       | succ n =>
         rcases wV xs ys k k' (fun x hx=>uM n x (by have:=rK hx;lia)) ha hb' h h' with ⟨rfl,q⟩ | ⟨e,q⟩
         . exact .inl ⟨rfl,q⟩
         . exact .inr ⟨fun z=>e (D.tup.inj z),q⟩
theorem wU:∀ (xs ys zs:List D) (k:Bool),(∀ x∈xs,LtT x)->hbL xs = true->hbL ys = true->hbL zs = true->dX ys xs = some false->dX zs ys = some false->dX zs xs = some k->k = false
 | [],ys,zs,k,_,_,_,_,_,_,h3=>by
   cases zs<;>unfold dX at h3<;>cases h3<;>rfl
 | x::xs,[],zs,k,_,_,_,_,h1,_,_=>by
   unfold dX at h1;cases h1
 | x::xs,y::ys,[],k,_,_,_,_,_,h2,_=>by
   unfold dX at h2;cases h2
 | x::xs,y::ys,z::zs,k,hT,b1,b2,b3,h1,h2,h3=>by
   obtain ⟨x1,x2⟩:=kX b1;obtain ⟨y1,y2⟩:=kX b2;obtain ⟨z1,z2⟩:=kX b3;rcases (eN y1 x1).mp h1 with ⟨e1,g1⟩ | ⟨e1,g1⟩
   . subst e1;rcases (eN z1 y1).mp h2 with ⟨e2,g2⟩ | ⟨e2,g2⟩
     . subst e2;rcases (eN z1 z1).mp h3 with ⟨_,g3⟩ | ⟨e3,_⟩
       . exact wU xs ys zs k (fun w hw=>hT w (aq _ hw)) x2 y2 z2 g1 g2 g3
       . exact absurd rfl e3
     . rcases (eN z1 y1).mp h3 with ⟨e3,_⟩ | ⟨_,g3⟩
       . exact absurd e3 e2
       . rw [g2] at g3;cases g3;rfl
   . rcases (eN z1 y1).mp h2 with ⟨e2,g2⟩ | ⟨e2,g2⟩
     . subst e2;rcases (eN z1 x1).mp h3 with ⟨e3,_⟩ | ⟨_,g3⟩
       . exact absurd e3 e1
       . rw [g1] at g3;cases g3;rfl
     . rcases (eN z1 x1).mp h3 with ⟨e3,_⟩ | ⟨_,g3⟩
       . subst e3;rcases uM _ y (aA _) z false false y1 z1 g1 g2 with ⟨e,_⟩ | ⟨_,e⟩
         . exact absurd e e1
         . cases e
       . exact hT x ao y z k x1 y1 z1 g1 g2 g3
theorem Aa:∀ (n:Nat) (a:D),dep a<=n->LtT a
 | n,a,hn,b,c,k,ha,hb',hc,h1,h2,h3=>by
   rcases gC h3 with ⟨i,j,rfl,rfl,rfl⟩ | ⟨s,t,rfl,rfl,rfl⟩ | ⟨zs,xs,rfl,rfl,g3⟩
   . rcases gC h1 with ⟨i',j',rfl,e2,e3⟩ | ⟨_,_,_,e,_⟩ | ⟨_,_,_,e,_⟩
     . cases e2;rcases gC h2 with ⟨_,_,e4,e5,e6⟩ | ⟨_,_,e,_⟩ | ⟨_,_,e,_⟩
       . cases e4;cases e5;have:=of_decide_eq_false e3.symm;have:=of_decide_eq_false e6.symm;exact decide_eq_false (by lia)
       . cases e
       . cases e
     . cases e
     . cases e
   . rcases gC h1 with ⟨_,_,_,e,_⟩ | ⟨i',j',rfl,e2,e3⟩ | ⟨_,_,_,e,_⟩
     . cases e
     . cases e2;rcases gC h2 with ⟨_,_,e,_⟩ | ⟨_,_,e4,e5,e6⟩ | ⟨_,_,e,_⟩
       . cases e
       . cases e4;cases e5;exact FG _ _ _ e3.symm e6.symm
       . cases e
     . cases e
   . rcases gC h1 with ⟨_,_,_,e,_⟩ | ⟨_,_,_,e,_⟩ | ⟨ys,xs',rfl,e2,g1⟩
     . cases e
     . cases e
     . cases e2;rcases gC h2 with ⟨_,_,e,_⟩ | ⟨_,_,e,_⟩ | ⟨_,_,e4,e5,g2⟩
       . cases e
       . cases e
       . cases e4;cases e5;unfold hb at ha hb' hc;have hd:bZ xs+1<=n:=by unfold dep at hn;exact hn
         cases n with
         | zero=>lia
         | succ n=>exact wU xs ys zs k (fun x hx=>Aa n x (by have:=rK hx;lia)) ha hb' hc g1 g2 g3
theorem qg (h:kS a b = some k):ltD a b = some k/\ltB a b = k:=by
 refine ⟨?_,by unfold ltB;rw [h];rfl⟩;unfold kS at h;split at h
 . exact h
 . cases h
theorem La (hs:sortable ds = true) (hh:∀ d∈ds,hb d = true):tot ds = true:=by
 obtain ⟨_,_,hlt⟩:=(letI:Tbs:=⟨[],[],[]⟩;dt hs);unfold tot;rw [bx];intro a ha;rw [bx];intro b hb';obtain ⟨k,e⟩:=hlt a ha b hb';obtain ⟨k',e'⟩:=hlt b hb' a ha;obtain ⟨e1,e2⟩:=qg e;obtain ⟨e1',e2'⟩:=qg e';have h:=uM _ a (aA _) b k k' (hh a ha) (hh b hb') e1 e1';rw [e2,e2',aa,aa];refine ⟨⟨?_,?_⟩,?_⟩
 . rcases h with ⟨_,rfl,rfl⟩ | ⟨_,rfl⟩
   . rfl
   . cases k<;>rfl
 . rcases h with ⟨rfl,rfl,rfl⟩ | ⟨_,rfl⟩
   . rw [(gE a a (hh a ha) (hh a ha)).mpr rfl];rfl
   . cases k<;>rfl
 . rw [bx];intro c hc;obtain ⟨m,f⟩:=hlt c hc b hb';obtain ⟨m',f'⟩:=hlt c hc a ha;obtain ⟨f1,f2⟩:=qg f;obtain ⟨f1',f2'⟩:=qg f';rw [f2,f2']
   cases k' with
   | true=>rfl
   | false =>
     cases m with
     | true=>rfl
     | false =>
       rw [Aa _ a (aA _) b c m' (hh a ha) (hh b hb') (hh c hc) e1' f1 f1'];rfl
theorem GX (hd:hb d = true) (hs:∀ y∈ds,hb y = true):x∈pR ds d↔x∈ds\/x = d:=by
 unfold pR;split
 . rename_i h;obtain ⟨y,hy,e⟩:=eH.mp h;rw [gE y d (hs y hy) hd] at e;exact ⟨.inl,fun z=>z.elim id fun z=>by rw [z,<- e];exact hy⟩
 . simp
theorem uZ:∀ (xs ds:List D),(∀ x∈xs,hb x = true)->(∀ x∈ds,hb x = true)->ds.Nodup->(∀ x,x∈xs.foldl pR ds↔x∈ds\/x∈xs)/\(xs.foldl pR ds).Nodup
 | [],ds,_,_,h=>⟨fun x=>by simp,h⟩
 | d::xs,ds,h1,h2,h3=>by
   have hd:=h1 d ao;have hm:∀ x,x∈pR ds d↔x∈ds\/x = d:=fun x=>GX hd h2
   have hn:(pR ds d).Nodup:=by
    unfold pR;split
    . exact h3
    . rename_i h;rw [gJ];refine ⟨h3,by simp,fun a ha b hb'=>?_⟩;rw [bU] at hb';intro e;apply h;exact eH.mpr ⟨a,ha,(gE a d (h2 a ha) hd).mpr (by rw [e,hb'])⟩
   obtain ⟨i1,i2⟩:=uZ xs (pR ds d) (fun x hx=>h1 x (aq _ hx)) (fun x hx=>by
    rcases (hm x).mp hx with z | rfl
    . exact h2 x z
    . exact hd) hn
   refine ⟨fun x=>?_,i2⟩;rw [dN,i1 x,hm x,aD,or_assoc]
theorem lg (h:∀ x∈xs,hb x = true):x∈kB xs↔x∈xs:=by
 have:=(uZ xs [] h (by simp) (by simp)).1 x;unfold kB;rw [this];simp
theorem rL (h:∀ x∈xs,hb x = true):(kB xs).Nodup:=(uZ xs [] h (by simp) (by simp)).2
theorem qG {α:Type}:∀ {l ns:List α},l.Nodup->(∀ x∈l,x∈ns)->l.length<=ns.length
 | [],_,_,_=>cu _
 | x::l,ns,h,hs=>by
   rw [bQ] at h;obtain ⟨a,b,rfl⟩:=List.append_of_mem (hs x ao)
   have ih:=qG (l:=l) (ns:=a++b) h.2 fun y hy=>by
    have:=hs y (aq _ hy);simp only [br,aD] at this ⊢;rcases this with z | rfl | z
    . exact .inl z
    . exact absurd hy h.1
    . exact .inr z
   simp only [ar,ay] at ih ⊢
   lia
theorem sg (hn:n < 64) (h:∀ x∈xs,hb x = true) (hl:∀ l:List D,l.Nodup->(∀ x∈l,x∈xs)->l.length<=n) (hk:∀ x∈xs,bH x = 3) (hc:∀ x∈xs,∀ y∈xs,(kS x y).isSome = true):sortable (kB xs) = true:=by
 have hm:∀ x,x∈kB xs->x∈xs:=fun x hx=>(lg h).mp hx;unfold sortable;simp only [aa,decide_eq_true_eq,bx];refine ⟨⟨bV (hl _ (rL h) hm) hn,fun x hx=>?_⟩,fun x hx y hy=>hc x (hm x hx) y (hm y hy)⟩
 cases e:kB xs with
 | nil=>rw [e] at hx;cases hx
 | cons z zs =>
   have e1:=hk x (hm x hx);have e2:=hk z (hm z (by rw [e];exact ao));show (bH x != 0) = true/\(bH x == bH z) = true;rw [e1,e2];exact ⟨rfl,rfl⟩
end PP
end
section
namespace PP
open PySem L2
noncomputable def kL:Nat->Ss->Ss
 | 0,_=>.nil
 | _,.nil=>.nil
 | k+1,.cons s ss=>.cons s (kL k ss)
noncomputable def fU:Nat->Ss->Ss
 | 0,ss=>ss
 | _,.nil=>.nil
 | k+1,.cons _ ss=>fU k ss
noncomputable def nxS (R:PP.Loc->Prop) (Q:Out->Prop):Out->Prop
 | .nx δ=>R δ
 | o=>Q o
theorem HD (h:wS cx s δ P) (k:∀ o,P o->Q o):wS cx s δ Q:=let ⟨o,e,p⟩:=h;⟨o,e,k o p⟩
theorem jQ {R:PP.Loc->Prop}:∀ (k:Nat) (ss:Ss) (δ:PP.Loc),wSs cx (kL k ss) δ (nxS R Q)->(∀ δ',R δ'->wSs cx (fU k ss) δ' Q)->wSs cx ss δ Q
 | 0,ss,δ,h,q=>by
   unfold kL at h
   exact q δ (mJ.mp h)
 | _+1,.nil,δ,h,q=>by
   unfold kL at h;unfold fU at q
   exact q δ (mJ.mp h)
 | k+1,.cons s ss,δ,h,q=>by
   unfold kL at h;unfold fU at q;refine dz.mpr (HD (dz.mp h) fun o p=>?_)
   cases o with
   | nx δ1=>exact jQ k ss δ1 p q
   | rt d δ1=>exact p
   | ro d δ1=>exact p
theorem dU (k:Nat) (δ':PP.Loc) (h:eV cx (kL k ss) δ = some (.nx δ')) (q:wSs cx (fU k ss) δ' Q):wSs cx ss δ Q:=jQ (R:=fun d=>d = δ') k ss δ ⟨.nx δ',h,rfl⟩ fun _ e=>e▸q
theorem Dr (P:Bool->Prop) (h:wT cx c δ fun k δ1=>δ1 = δ0/\P k) (ha:P true->wSs cx a δ0 Q) (hb:P false->wSs cx b δ0 Q):wS cx (.ifs c a b) δ Q:=by
 obtain ⟨k,δ1,e,rfl,p⟩:=h;refine Dq.mpr ⟨k,δ1,e,?_⟩;cases k
 . exact hb p
 . exact ha p
theorem kA {c A B:Prop} [Decidable c] (h1:c->A) (h2:¬ c->B):if c then A else B:=by
 by_cases h:c
 . rw [if_pos h];exact h1 h
 . rw [if_neg h];exact h2 h
theorem FY {a b X Y:Prop} [Decidable a] [Decidable b] (hX:a\/b->X) (hY:¬ a->¬ b->Y):if a then X else if b then X else Y:=by
 by_cases ha:a
 . rw [if_pos ha];exact hX (.inl ha)
 . rw [if_neg ha];by_cases hb:b
   . rw [if_pos hb];exact hX (.inr hb)
   . rw [if_neg hb];exact hY ha hb
end PP
end
section
namespace P1
open PySem L2 PP
noncomputable def top (i:Nat):de:=PySem.Challenge.pw_cutless_k10_a_rule.main.body.getD i (.Pass ⟨0,0,0,0⟩)
noncomputable def xx:Fd:=⟨"inside",["A"],[],
 (.cons (.ret (.ite (.cmp .isin (.ix (.var 0) (.int 0)) (.glob 0)) (.tup .nil) (.sl (.var 0) (.yes (.int 1)) .no)))
 .nil),false⟩
noncomputable def kl:Fd:=⟨"is_place",["term"],[],
 (.cons (.ret (.isdig 0))
 .nil),false⟩
noncomputable def dY:Fd:=⟨"words_within",["A"],["found","B"],
 (.cons (.ifs (.cmp .eq (.ix (.var 0) (.int 0)) (.str "word"))
 (.cons (.ret (.lst (.cons (.var 0) .nil)))
 .nil)
 .nil)
 (.cons (.new 1 (.lst .nil))
 (.cons (.for_ (.nm 2) (.sq (.call 0 (.cons (.var 0) .nil)))
 (.cons (.extend 1 (.call 2 (.cons (.var 2) .nil)))
 .nil))
 (.cons (.ret (.var 1))
 .nil)))),false⟩
noncomputable def kf:Fd:=⟨"names_of",["A"],[],
 (.cons (.ret (.sset 2 (.nm 1) (.sq (.call 2 (.cons (.var 0) .nil))) (.nm 2) (.sq (.ix (.var 1) (.int 2))) (.yes (.not (.call 1 (.cons (.var 2) .nil)))) (.var 2)))
 .nil),false⟩
noncomputable def du:Fd:=⟨"with_terms",["A","depth","change"],["kind","inner"],
 (.cons (.asg (.nm 3) (.ix (.var 0) (.int 0)))
 (.cons (.ifs (.cmp .eq (.var 3) (.str "word"))
 (.cons (.ret (.tup (.cons (.var 3) (.cons (.ix (.var 0) (.int 1)) (.cons (.blt .toTup (.cons (.comp 1 (.nm 5) (.sq (.ix (.var 0) (.int 2))) .no (.callv 2 (.cons (.var 5) (.cons (.var 1) .nil)))) .nil)) .nil)))))
 .nil)
 .nil)
 (.cons (.asg (.nm 4) (.ite (.cmp .isin (.var 3) (.glob 1)) (.bin .add (.var 1) (.int 1)) (.var 1)))
 (.cons (.ret (.bin .add (.tup (.cons (.var 3) .nil)) (.blt .toTup (.cons (.comp 1 (.nm 5) (.sq (.call 0 (.cons (.var 0) .nil))) .no (.callF 4 (.cons (.var 5) (.cons (.var 4) .nil)) 2)) .nil))))
 .nil)))),true⟩
noncomputable def jF:Fd:=⟨"put_in",["body","name"],[],
 (.cons (.retL 4 (.cons (.var 0) (.cons (.int 0) .nil)) 35 [1])
 .nil),false⟩
noncomputable def iD:Fd:=⟨"sorted_row",["signed"],["kept","each"],
 (.cons (.new 1 (.lst .nil))
 (.cons (.for_ (.nm 2) (.sq (.blt .sorted (.cons (.var 0) .nil)))
 (.cons (.ifs (.or (.not (.var 1)) (.cmp .ne (.ix (.pk 1) (.neg (.int 1))) (.var 2)))
 (.cons (.append 1 (.var 2))
 .nil)
 .nil)
 .nil))
 (.cons (.ret (.blt .toTup (.cons (.pk 1) .nil)))
 .nil))),false⟩
noncomputable def va:Fd:=⟨"more",["row","added"],[],
 (.cons (.ret (.call 6 (.cons (.bin .add (.blt .toLst (.cons (.var 0) .nil)) (.blt .toLst (.cons (.var 1) .nil))) .nil)))
 .nil),false⟩
noncomputable def nE:Fd:=⟨"closes",["row"],[],
 (.cons (.ifs (.or (.cmp .isin (.tup (.cons (.str "right") (.cons (.tup (.cons (.str "yes") .nil)) .nil))) (.var 0)) (.cmp .isin (.tup (.cons (.str "left") (.cons (.tup (.cons (.str "no") .nil)) .nil))) (.var 0)))
 (.cons (.ret (.bl true))
 .nil)
 .nil)
 (.cons (.ret (.blt .any (.cons (.comp 2 (.tp [1,2]) (.sq (.var 0)) .no (.and (.cmp .eq (.var 1) (.str "left")) (.cmp .isin (.tup (.cons (.str "right") (.cons (.var 2) .nil))) (.var 0)))) .nil)))
 .nil)),false⟩
noncomputable def kg:Fd:=⟨"names_in",["row"],[],
 (.cons (.ret (.sset 3 (.tp [1,2]) (.sq (.var 0)) (.nm 3) (.sq (.call 3 (.cons (.var 2) .nil))) .no (.var 3)))
 .nil),false⟩
noncomputable def nC:Fd:=⟨"other_side",["side"],[],
 (.cons (.ret (.ite (.cmp .eq (.var 0) (.str "left")) (.str "right") (.str "left")))
 .nil),false⟩
noncomputable def kv:Fd:=⟨"signed_within",["side","A"],["signed"],
 (.cons (.cmp true 2 (.comp 1 (.nm 3) (.sq (.call 0 (.cons (.var 1) .nil))) .no (.tup (.cons (.var 0) (.cons (.var 3) .nil)))))
 (.cons (.ifs (.cmp .isin (.ix (.var 1) (.int 0)) (.tup (.cons (.str "not") (.cons (.str "if") .nil))))
 (.cons (.setix 2 (.int 0) (.tup (.cons (.call 10 (.cons (.var 0) .nil)) (.cons (.ix (.var 1) (.int 1)) .nil))))
 .nil)
 .nil)
 (.cons (.ret (.var 2))
 .nil))),false⟩
noncomputable def lM:Fd:=⟨"parts",["side","A","name"],["kind","signed"],
 (.cons (.asg (.nm 3) (.ix (.var 1) (.int 0)))
 (.cons (.ifs (.cmp .isin (.var 3) (.glob 0))
 (.cons (.ret (.lst .nil))
 .nil)
 .nil)
 (.cons (.ifs (.cmp .isin (.var 3) (.glob 1))
 (.cons (.ret (.lst (.cons (.lst (.cons (.tup (.cons (.var 0) (.cons (.call 5 (.cons (.ix (.var 1) (.int 1)) (.cons (.var 2) .nil))) .nil))) .nil)) .nil)))
 .nil)
 .nil)
 (.cons (.asg (.nm 4) (.call 11 (.cons (.var 0) (.cons (.var 1) .nil))))
 (.cons (.ifs (.cmp .isin (.tup (.cons (.var 0) (.cons (.var 3) .nil))) (.glob 2))
 (.cons (.ret (.comp 1 (.nm 5) (.sq (.var 4)) .no (.lst (.cons (.var 5) .nil))))
 .nil)
 .nil)
 (.cons (.ret (.lst (.cons (.var 4) .nil)))
 .nil)))))),false⟩
noncomputable def xw:Fd:=⟨"is_own",["side","A"],[],
 (.cons (.ret (.cmp .isin (.tup (.cons (.var 0) (.cons (.ix (.var 1) (.int 0)) .nil))) (.glob 3)))
 .nil),false⟩
noncomputable def lN:Fd:=⟨"kids_of",["tree"],[],
 (.cons (.ret (.ite (.cmp .eq (.var 0) (.glob 4)) (.tup .nil) (.ix (.var 0) (.neg (.int 1)))))
 .nil),false⟩
noncomputable def gY:Fd:=⟨"added_above",["tree"],[],
 (.cons (.ifs (.cmp .eq (.ix (.var 0) (.int 0)) (.str "rule"))
 (.cons (.ret (.call 12 (.cons (.ix (.var 0) (.int 1)) (.cons (.ix (.var 0) (.int 2)) (.cons (.ix (.var 0) (.int 3)) .nil)))))
 .nil)
 .nil)
 (.cons .bad
 (.cons .bad
 .nil))),false⟩
noncomputable def iE:Fd:=⟨"rows_above",["row","tree"],[],
 (.cons (.ret (.comp 1 (.nm 2) (.sq (.call 15 (.cons (.var 1) .nil))) .no (.call 7 (.cons (.var 0) (.cons (.var 2) .nil)))))
 .nil),false⟩
noncomputable def jg:Fd:=⟨"stands_at",["row","tree"],["side","A","name"],
 (.cons (.asg (.tp [2,3,4]) (.sl (.var 1) (.yes (.int 1)) (.yes (.int 4))))
 (.cons (.ifs (.cmp .notin (.tup (.cons (.var 2) (.cons (.var 3) .nil))) (.var 0))
 (.cons (.ret (.bl false))
 .nil)
 .nil)
 (.cons (.ifs (.cmp .ne (.cmp .isin (.ix (.var 3) (.int 0)) (.glob 1)) (.cmp .ne (.var 4) (.str "")))
 (.cons (.ret (.bl false))
 .nil)
 .nil)
 (.cons (.ret (.not (.and (.call 13 (.cons (.var 2) (.cons (.var 3) .nil))) (.cmp .isin (.var 4) (.call 9 (.cons (.var 0) .nil))))))
 .nil)))),false⟩
noncomputable def oH:Fd:=⟨"fits",["row","tree"],["rows","kids","above","kid"],
 (.cons (.ifs (.cmp .eq (.var 1) (.glob 4))
 (.cons (.ret (.call 8 (.cons (.var 0) .nil)))
 .nil)
 .nil)
 (.cons (.ifs (.and (.cmp .eq (.ix (.var 1) (.int 0)) (.str "rule")) (.not (.call 17 (.cons (.var 0) (.cons (.var 1) .nil)))))
 (.cons (.ret (.bl false))
 .nil)
 .nil)
 (.cons (.asg (.nm 2) (.call 16 (.cons (.var 0) (.cons (.var 1) .nil))))
 (.cons (.asg (.nm 3) (.call 14 (.cons (.var 1) .nil)))
 (.cons (.ifs (.or (.not (.var 2)) (.cmp .ne (.blt .len (.cons (.var 2) .nil)) (.blt .len (.cons (.var 3) .nil))))
 (.cons (.ret (.bl false))
 .nil)
 .nil)
 (.cons (.forZ (.tp [4,5]) (.cons (.var 2) (.cons (.var 3) .nil))
 (.cons (.ifs (.not (.call 18 (.cons (.var 4) (.cons (.var 5) .nil))))
 (.cons (.ret (.bl false))
 .nil)
 .nil)
 .nil))
 (.cons (.ret (.bl true))
 .nil))))))),false⟩
noncomputable def jm:Fd:=⟨"_law_cell",["_law_script","_law_k"],["_law_number"],
 (.cons (.ifs (.cmp .lt (.var 1) (.blt .len (.cons (.var 0) .nil)))
 (.cons (.ret (.ix (.var 0) (.var 1)))
 .nil)
 .nil)
 (.cons (.asg (.nm 2) (.bin .add (.bin .mul (.var 1) (.int 7919)) (.int 5)))
 (.cons (.ifs (.cmp .gt (.blt .len (.cons (.var 0) .nil)) (.int 0))
 (.cons (.asg (.nm 2) (.bin .add (.bin .mod (.bin .mul (.ix (.var 0) (.bin .mod (.bin .mul (.var 1) (.int 7)) (.blt .len (.cons (.var 0) .nil)))) (.int 48271)) (.int 2147483647)) (.bin .mul (.var 1) (.int 104729))))
 .nil)
 .nil)
 (.cons (.ret (.bin .mod (.bin .mul (.var 2) (.var 2)) (.int 2147483629)))
 .nil)))),false⟩
noncomputable def ji:Fd:=⟨"_law_text",["_law_cell_here","_law_filler","_law_k"],["_law_size","_law_at"],
 (.cons (.asg (.nm 3) (.bin .add (.int 1) (.bin .mod (.var 0) (.int 8))))
 (.cons (.asg (.nm 4) (.bin .mod (.bin .fdiv (.var 0) (.int 8)) (.var 3)))
 (.cons (.ret (.bin .add (.bin .add (.bin .mul (.var 1) (.var 4)) (.ix (.str "bdghjk") (.var 2))) (.bin .mul (.var 1) (.bin .sub (.bin .sub (.var 3) (.int 1)) (.var 4)))))
 .nil))),false⟩
noncomputable def jj:Fd:=⟨"_law_name",["_law_cell_here"],["_law_letters","_law_found","_law_rest","_law_k"],
 (.cons (.asg (.nm 1) (.str "abcdefghijklmnopqrstuvwxyz0123456789"))
 (.cons (.asg (.nm 2) (.ix (.var 1) (.bin .mod (.bin .fdiv (.var 0) (.int 8)) (.int 26))))
 (.cons (.asg (.nm 3) (.bin .fdiv (.var 0) (.int 208)))
 (.cons (.for_ (.nm 4) (.rng (.bin .mod (.var 0) (.int 8)))
 (.cons (.asg (.nm 2) (.bin .add (.var 2) (.ix (.var 1) (.bin .mod (.var 3) (.int 36)))))
 (.cons (.asg (.nm 3) (.bin .fdiv (.var 3) (.int 36)))
 .nil)))
 (.cons (.ret (.var 2))
 .nil))))),false⟩
noncomputable def jk:Fd:=⟨"_law_leaf",["_law_cell_here","_law_family","_law_names_here"],["_law_terms","_law_j"],
 (.cons (.new 3 (.lst .nil))
 (.cons (.for_ (.nm 4) (.rng (.bin .mod (.bin .fdiv (.var 0) (.int 5)) (.int 4)))
 (.cons (.append 3 (.ix (.var 2) (.bin .mod (.bin .fdiv (.var 0) (.bin .add (.int 7) (.bin .mul (.int 4) (.var 4)))) (.blt .len (.cons (.var 2) .nil)))))
 .nil))
 (.cons (.ret (.tup (.cons (.str "word") (.cons (.call 20 (.cons (.var 1) (.cons (.str "q") (.cons (.bin .mod (.var 0) (.int 3)) .nil)))) (.cons (.blt .toTup (.cons (.pk 3) .nil)) .nil)))))
 .nil))),false⟩
noncomputable def fA:Fd:=⟨"_law_statement",["_law_cell_here","_law_deep","_law_around","_law_names_here","_law_family"],["_law_kind","_law_rest","_law_one"],
 (.cons (.asg (.nm 5) (.ix (.lst (.cons (.str "word") (.cons (.str "not") (.cons (.str "and") (.cons (.str "or") (.cons (.str "if") (.cons (.str "all") (.cons (.str "some") (.cons (.str "yes") (.cons (.str "no") (.cons (.str "word") .nil))))))))))) (.bin .mod (.var 0) (.int 10))))
 (.cons (.asg (.nm 6) (.bin .fdiv (.var 0) (.int 10)))
 (.cons (.ifs (.or (.cmp .eq (.var 5) (.str "yes")) (.cmp .eq (.var 5) (.str "no")))
 (.cons (.ret (.tup (.cons (.var 5) .nil)))
 .nil)
 .nil)
 (.cons (.ifs (.or (.cmp .eq (.var 5) (.str "word")) (.cmp .eq (.var 1) (.int 0)))
 (.cons (.ret (.call 22 (.cons (.var 6) (.cons (.var 4) (.cons (.bin .add (.var 3) (.comp 1 (.nm 8) (.rng (.var 2)) .no (.blt .toStr (.cons (.var 8) .nil)))) .nil)))))
 .nil)
 .nil)
 (.cons (.ifs (.cmp .eq (.var 5) (.str "not"))
 (.cons (.ret (.tup (.cons (.str "not") (.cons (.call 23 (.cons (.var 6) (.cons (.bin .sub (.var 1) (.int 1)) (.cons (.var 2) (.cons (.var 3) (.cons (.var 4) .nil)))))) .nil))))
 .nil)
 .nil)
 (.cons (.ifs (.or (.cmp .eq (.var 5) (.str "all")) (.cmp .eq (.var 5) (.str "some")))
 (.cons (.ret (.tup (.cons (.var 5) (.cons (.call 23 (.cons (.var 6) (.cons (.bin .sub (.var 1) (.int 1)) (.cons (.bin .add (.var 2) (.int 1)) (.cons (.var 3) (.cons (.var 4) .nil)))))) .nil))))
 .nil)
 .nil)
 (.cons (.asg (.nm 7) (.call 23 (.cons (.bin .mod (.bin .mul (.var 6) (.int 48271)) (.int 2147483647)) (.cons (.bin .sub (.var 1) (.int 1)) (.cons (.var 2) (.cons (.var 3) (.cons (.var 4) .nil)))))))
 (.cons (.ret (.tup (.cons (.var 5) (.cons (.var 7) (.cons (.call 23 (.cons (.bin .mod (.bin .mul (.var 6) (.int 69621)) (.int 2147483629)) (.cons (.bin .sub (.var 1) (.int 1)) (.cons (.var 2) (.cons (.var 3) (.cons (.var 4) .nil)))))) .nil)))))
 .nil)))))))),false⟩
noncomputable def cZ:Fd:=⟨"_law_put",["_law_s","_law_name_here","_law_deep"],["_law_terms","_law_term"],
 (.cons (.ifs (.cmp .eq (.ix (.var 0) (.int 0)) (.str "word"))
 (.cons (.new 3 (.lst .nil))
 (.cons (.for_ (.nm 4) (.sq (.ix (.var 0) (.int 2)))
 (.cons (.ifs (.cmp .eq (.var 4) (.blt .toStr (.cons (.var 2) .nil)))
 (.cons (.append 3 (.var 1))
 .nil)
 (.cons (.append 3 (.var 4))
 .nil))
 .nil))
 (.cons (.ret (.tup (.cons (.str "word") (.cons (.ix (.var 0) (.int 1)) (.cons (.blt .toTup (.cons (.pk 3) .nil)) .nil)))))
 .nil)))
 .nil)
 (.cons (.ifs (.or (.cmp .eq (.ix (.var 0) (.int 0)) (.str "all")) (.cmp .eq (.ix (.var 0) (.int 0)) (.str "some")))
 (.cons (.ret (.tup (.cons (.ix (.var 0) (.int 0)) (.cons (.call 24 (.cons (.ix (.var 0) (.int 1)) (.cons (.var 1) (.cons (.bin .add (.var 2) (.int 1)) .nil)))) .nil))))
 .nil)
 .nil)
 (.cons (.ret (.bin .add (.tup (.cons (.ix (.var 0) (.int 0)) .nil)) (.blt .toTup (.cons (.comp 1 (.nm 5) (.sq (.sl (.var 0) (.yes (.int 1)) .no)) .no (.call 24 (.cons (.var 5) (.cons (.var 1) (.cons (.var 2) .nil))))) .nil))))
 .nil))),false⟩
noncomputable def dH:Fd:=⟨"_law_names",["_law_s"],["_law_found","_law_part"],
 (.cons (.ifs (.cmp .eq (.ix (.var 0) (.int 0)) (.str "word"))
 (.cons (.ret (.comp 1 (.nm 3) (.sq (.ix (.var 0) (.int 2))) (.yes (.cmp .notin (.var 3) (.str "0123456789"))) (.var 3)))
 .nil)
 .nil)
 (.cons (.asg (.nm 1) (.lst .nil))
 (.cons (.for_ (.nm 2) (.sq (.sl (.var 0) (.yes (.int 1)) .no))
 (.cons (.asg (.nm 1) (.bin .add (.var 1) (.call 25 (.cons (.var 2) .nil))))
 .nil))
 (.cons (.ret (.var 1))
 .nil)))),false⟩
noncomputable def fD:Fd:=⟨"_law_parts",["_law_side","_law_s","_law_name_here"],["_law_other","_law_one"],
 (.cons (.asg (.nm 3) (.ix (.lst (.cons (.str "left") (.cons (.str "right") .nil))) (.blt .toInt (.cons (.cmp .eq (.var 0) (.str "left")) .nil))))
 (.cons (.ifs (.cmp .eq (.ix (.var 1) (.int 0)) (.str "not"))
 (.cons (.ret (.lst (.cons (.lst (.cons (.tup (.cons (.var 3) (.cons (.ix (.var 1) (.int 1)) .nil))) .nil)) .nil)))
 .nil)
 .nil)
 (.cons (.ifs (.or (.cmp .eq (.ix (.var 1) (.int 0)) (.str "all")) (.cmp .eq (.ix (.var 1) (.int 0)) (.str "some")))
 (.cons (.ret (.lst (.cons (.lst (.cons (.tup (.cons (.var 0) (.cons (.call 24 (.cons (.ix (.var 1) (.int 1)) (.cons (.var 2) (.cons (.int 0) .nil)))) .nil))) .nil)) .nil)))
 .nil)
 .nil)
 (.cons (.ifs (.cmp .notin (.ix (.var 1) (.int 0)) (.tup (.cons (.str "and") (.cons (.str "or") (.cons (.str "if") .nil)))))
 (.cons (.ret (.lst .nil))
 .nil)
 .nil)
 (.cons (.asg (.nm 4) (.tup (.cons (.var 0) (.cons (.ix (.var 1) (.int 1)) .nil))))
 (.cons (.ifs (.cmp .eq (.ix (.var 1) (.int 0)) (.str "if"))
 (.cons (.asg (.nm 4) (.tup (.cons (.var 3) (.cons (.ix (.var 1) (.int 1)) .nil))))
 .nil)
 .nil)
 (.cons (.ifs (.cmp .eq (.cmp .eq (.ix (.var 1) (.int 0)) (.str "and")) (.cmp .eq (.var 0) (.str "left")))
 (.cons (.ret (.lst (.cons (.lst (.cons (.var 4) (.cons (.tup (.cons (.var 0) (.cons (.ix (.var 1) (.int 2)) .nil))) .nil))) .nil)))
 .nil)
 .nil)
 (.cons (.ret (.lst (.cons (.lst (.cons (.var 4) .nil)) (.cons (.lst (.cons (.tup (.cons (.var 0) (.cons (.ix (.var 1) (.int 2)) .nil))) .nil)) .nil))))
 .nil)))))))),false⟩
noncomputable def hJ:Fd:=⟨"_law_closes",["_law_row"],["_law_side","_law_s"],
 (.cons (.ifs (.or (.cmp .isin (.tup (.cons (.str "left") (.cons (.tup (.cons (.str "no") .nil)) .nil))) (.var 0)) (.cmp .isin (.tup (.cons (.str "right") (.cons (.tup (.cons (.str "yes") .nil)) .nil))) (.var 0)))
 (.cons (.ret (.bl true))
 .nil)
 .nil)
 (.cons (.for_ (.tp [1,2]) (.sq (.var 0))
 (.cons (.ifs (.and (.cmp .eq (.var 1) (.str "left")) (.cmp .isin (.tup (.cons (.str "right") (.cons (.var 2) .nil))) (.var 0)))
 (.cons (.ret (.bl true))
 .nil)
 .nil)
 .nil))
 (.cons (.ret (.bl false))
 .nil))),false⟩
noncomputable def km:Fd:=⟨"_law_own",["_law_row","_law_side","_law_s","_law_name_here"],["_law_one"],
 (.cons (.ifs (.or (.cmp .eq (.var 3) (.str "")) (.cmp .eq (.cmp .eq (.var 1) (.str "left")) (.cmp .eq (.ix (.var 2) (.int 0)) (.str "all"))))
 (.cons (.ret (.cmp .ne (.var 3) (.str "")))
 .nil)
 .nil)
 (.cons (.for_ (.nm 4) (.sq (.var 0))
 (.cons (.ifs (.cmp .isin (.var 3) (.call 25 (.cons (.ix (.var 4) (.int 1)) .nil)))
 (.cons (.ret (.bl false))
 .nil)
 .nil)
 .nil))
 (.cons (.ret (.bl true))
 .nil))),false⟩
noncomputable def gZ:Fd:=⟨"_law_signed",["_law_cell_here","_law_names_here","_law_family"],[],
 (.cons (.ret (.tup (.cons (.ix (.lst (.cons (.str "left") (.cons (.str "right") .nil))) (.bin .mod (.var 0) (.int 2))) (.cons (.call 23 (.cons (.bin .fdiv (.var 0) (.int 2)) (.cons (.int 2) (.cons (.int 0) (.cons (.var 1) (.cons (.var 2) .nil)))))) .nil))))
 .nil),false⟩
noncomputable def lX:Fd:=⟨"_law_turned",["_law_one"],[],
 (.cons (.ret (.tup (.cons (.ix (.lst (.cons (.str "left") (.cons (.str "right") .nil))) (.blt .toInt (.cons (.cmp .eq (.ix (.var 0) (.int 0)) (.str "left")) .nil))) (.cons (.ix (.var 0) (.int 1)) .nil))))
 .nil),false⟩
noncomputable def fC:Fd:=⟨"_law_rule_name",["_law_s","_law_cell_here","_law_extra","_law_names_here"],[],
 (.cons (.ifs (.and (.cmp .ne (.ix (.var 0) (.int 0)) (.str "all")) (.cmp .ne (.ix (.var 0) (.int 0)) (.str "some")))
 (.cons (.ret (.ix (.lst (.cons (.str "") (.cons (.str "") (.cons (.str "") (.cons (.ix (.var 3) (.bin .mod (.var 2) (.int 3))) .nil))))) (.bin .mod (.var 1) (.int 4))))
 .nil)
 .nil)
 (.cons (.ret (.ix (.lst (.cons (.str "") (.cons (.ix (.var 3) (.int 0)) (.cons (.ix (.var 3) (.bin .mod (.var 2) (.int 3))) (.cons (.call 21 (.cons (.bin .fdiv (.var 2) (.int 3)) .nil)) .nil))))) (.bin .mod (.var 1) (.int 4))))
 .nil)),false⟩
noncomputable def kn:Fd:=⟨"_law_due",["_law_row","_law_side","_law_s","_law_name_here","_law_many"],["_law_branches","_law_branch"],
 (.cons (.asg (.nm 5) (.call 26 (.cons (.var 1) (.cons (.var 2) (.cons (.var 3) .nil)))))
 (.cons (.ifs (.or (.cmp .notin (.tup (.cons (.var 1) (.cons (.var 2) .nil))) (.var 0)) (.or (.cmp .eq (.var 5) (.lst .nil)) (.cmp .ne (.var 4) (.blt .len (.cons (.var 5) .nil)))))
 (.cons (.ret (.bl false))
 .nil)
 .nil)
 (.cons (.ifs (.and (.cmp .ne (.ix (.var 2) (.int 0)) (.str "all")) (.cmp .ne (.ix (.var 2) (.int 0)) (.str "some")))
 (.cons (.ifs (.cmp .ne (.var 3) (.str ""))
 (.cons (.ret (.bl false))
 .nil)
 .nil)
 .nil)
 (.cons (.ifs (.not (.call 28 (.cons (.var 0) (.cons (.var 1) (.cons (.var 2) (.cons (.var 3) .nil))))))
 (.cons (.ret (.bl false))
 .nil)
 .nil)
 .nil))
 (.cons (.for_ (.nm 6) (.sq (.var 5))
 (.cons (.ifs (.not (.call 27 (.cons (.bin .add (.var 0) (.var 6)) .nil)))
 (.cons (.ret (.bl false))
 .nil)
 .nil)
 .nil))
 (.cons (.ret (.bl true))
 .nil))))),false⟩
noncomputable def jh:Fd:=⟨"_law_told",["_law_row","_law_tree","_law_due_here"],["_law_found"],
 (.cons (.asg (.nm 3) (.call 18 (.cons (.blt .toTup (.cons (.ssd (.var 0)) .nil)) (.cons (.var 1) .nil))))
 (.cons (.ret (.and (.blt .isBool (.cons (.var 3) .nil)) (.cmp .eq (.var 3) (.var 2))))
 .nil)),false⟩
noncomputable def d_law:Fd:=⟨"law",["_law_script"],["_law_cell_here","_law_extra","_law_names_here","_law_row","_law_side","_law_s","_law_name_here","_law_branches","_law_branch","_law_many","_law_tree","_law_less"],
 (.cons (.asg (.nm 1) (.call 19 (.cons (.var 0) (.cons (.int 0) .nil))))
 (.cons (.asg (.nm 2) (.call 19 (.cons (.var 0) (.cons (.int 1) .nil))))
 (.cons (.cmp false 3 (.comp 1 (.nm 13) (.rng (.int 3)) .no (.call 20 (.cons (.bin .fdiv (.var 1) (.int 4)) (.cons (.str "z") (.cons (.var 13) .nil))))))
 (.cons (.ifs (.cmp .eq (.bin .mod (.var 1) (.int 4)) (.int 1))
 (.cons (.asg (.nm 3) (.lst (.cons (.call 21 (.cons (.var 2) .nil)) (.cons (.str "n0") (.cons (.call 21 (.cons (.bin .fdiv (.var 1) (.int 4)) .nil)) .nil)))))
 .nil)
 .nil)
 (.cons (.cmp false 4 (.comp 1 (.nm 13) (.sq (.sl (.var 0) (.yes (.int 2)) (.yes (.int 30)))) .no (.call 29 (.cons (.var 13) (.cons (.var 3) (.cons (.bin .fdiv (.var 1) (.int 5)) .nil))))))
 (.cons (.asg (.tp [5,6]) (.call 29 (.cons (.bin .fdiv (.call 19 (.cons (.var 0) (.cons (.int 2) .nil))) (.int 3)) (.cons (.var 3) (.cons (.bin .fdiv (.var 1) (.int 5)) .nil)))))
 (.cons (.ifs (.and (.cmp .eq (.bin .mod (.bin .fdiv (.var 1) (.int 64)) (.int 3)) (.int 0)) (.cmp .gt (.blt .len (.cons (.var 4) .nil)) (.int 0)))
 (.cons (.asg (.tp [5,6]) (.ix (.var 4) (.bin .mod (.bin .fdiv (.var 2) (.int 5)) (.blt .len (.cons (.var 4) .nil)))))
 .nil)
 .nil)
 (.cons (.asg (.nm 7) (.call 31 (.cons (.var 6) (.cons (.bin .fdiv (.var 1) (.int 192)) (.cons (.var 2) (.cons (.var 3) .nil))))))
 (.cons (.ifs (.cmp .gt (.bin .mod (.bin .fdiv (.var 1) (.int 768)) (.int 4)) (.int 0))
 (.cons (.asg (.nm 4) (.bin .add (.var 4) (.lst (.cons (.tup (.cons (.var 5) (.cons (.var 6) .nil))) .nil))))
 .nil)
 .nil)
 (.cons (.asg (.nm 8) (.call 26 (.cons (.var 5) (.cons (.var 6) (.cons (.ix (.lst (.cons (.var 7) (.cons (.ix (.var 3) (.int 0)) .nil))) (.blt .toInt (.cons (.cmp .eq (.var 7) (.str "")) .nil))) .nil)))))
 (.cons (.for_ (.nm 9) (.sq (.sl (.var 8) .no (.yes (.bin .add (.int 1) (.bin .mod (.bin .fdiv (.var 2) (.int 7)) (.int 4))))))
 (.cons (.asg (.nm 4) (.bin .add (.var 4) (.lst (.cons (.call 30 (.cons (.ix (.var 9) (.bin .mod (.bin .fdiv (.var 2) (.int 11)) (.blt .len (.cons (.var 9) .nil)))) .nil)) .nil))))
 .nil))
 (.cons (.ifs (.cmp .eq (.bin .mod (.bin .fdiv (.var 2) (.int 13)) (.int 4)) (.int 1))
 (.cons (.asg (.nm 4) (.bin .add (.var 4) (.lst (.cons (.tup (.cons (.str "left") (.cons (.tup (.cons (.str "no") .nil)) .nil))) .nil))))
 .nil)
 .nil)
 (.cons (.asg (.nm 10) (.blt .max (.cons (.int 0) (.cons (.bin .add (.blt .len (.cons (.var 8) .nil)) (.ix (.lst (.cons (.int 0) (.cons (.int 0) (.cons (.int 0) (.cons (.int 1) (.cons (.neg (.int 1)) .nil)))))) (.bin .mod (.bin .fdiv (.var 2) (.int 17)) (.int 5)))) .nil))))
 (.cons (.asg (.nm 11) (.tup (.cons (.str "rule") (.cons (.var 5) (.cons (.var 6) (.cons (.var 7) (.cons (.blt .toTup (.cons (.comp 1 (.nm 13) (.rng (.var 10)) .no (.tup (.cons (.str "close") .nil))) .nil)) .nil)))))))
 (.cons (.ifs (.not (.call 33 (.cons (.var 4) (.cons (.var 11) (.cons (.call 32 (.cons (.var 4) (.cons (.var 5) (.cons (.var 6) (.cons (.var 7) (.cons (.var 10) .nil)))))) .nil)))))
 (.cons .bad
 .nil)
 .nil)
 (.cons (.ifs (.not (.call 33 (.cons (.var 4) (.cons (.tup (.cons (.str "close") .nil)) (.cons (.call 27 (.cons (.var 4) .nil)) .nil)))))
 (.cons .bad
 .nil)
 .nil)
 (.cons (.asg (.nm 12) (.sl (.var 4) .no (.yes (.neg (.int 1)))))
 (.cons (.ifs (.not (.call 33 (.cons (.var 12) (.cons (.var 11) (.cons (.call 32 (.cons (.var 12) (.cons (.var 5) (.cons (.var 6) (.cons (.var 7) (.cons (.var 10) .nil)))))) .nil)))))
 (.cons .bad
 .nil)
 .nil)
 (.cons (.ret (.call 33 (.cons (.var 4) (.cons (.var 11) (.cons (.call 32 (.cons (.var 4) (.cons (.var 5) (.cons (.var 6) (.cons (.var 7) (.cons (.var 10) .nil)))))) .nil)))))
 .nil))))))))))))))))))),false⟩
noncomputable def d_lam0:Fd:=⟨"put_in.<locals>.<lambda>",["term","depth","name"],[],
 (.cons (.ret (.ite (.and (.call 1 (.cons (.var 0) .nil)) (.cmp .eq (.blt .toInt (.cons (.var 0) .nil)) (.var 1))) (.var 2) (.var 0))) .nil),false⟩
noncomputable def Gd:List Fd:=[xx,kl,dY,kf,du,jF,iD,va,nE,kg,nC,kv,lM,xw,lN,gY,iE,jg,oH,jm,ji,jj,jk,fA,cZ,dH,fD,hJ,km,gZ,lX,fC,kn,jh,d_law]
noncomputable def Gs:List Fd:=[xx,kl,dY,kf,du,jF,iD,va,nE,kg,nC,kv,lM,xw,lN,gY,iE,jg,oH,jm,ji,jj,jk,fA,cZ,dH,fD,hJ,km,gZ,lX,fC,kn,jh,d_law,d_lam0]
noncomputable def L0:Lam:=⟨"put_in.<locals>.<lambda>",PX (rlm (top 8)),PQ (rlm (top 8)),PM (rlm (top 8)),["term","depth"],["name"]⟩
noncomputable instance tbs:Tbs:=⟨[(49,"put_in.<locals>.<lambda>")],[(35,L0)],[]⟩
noncomputable def pls:List (String × Nat):=[("inside",3),("is_place",4),("words_within",5),("names_of",6),("with_terms",7),("put_in",8),("sorted_row",12),("more",13),("closes",14),("names_in",15),("other_side",16),("signed_within",17),("parts",18),("is_own",19),("kids_of",22),("added_above",23),("rows_above",24),("stands_at",25),("fits",26),("_law_cell",28),("_law_text",29),("_law_name",30),("_law_leaf",31),("_law_statement",32),("_law_put",33),("_law_names",34),("_law_parts",35),("_law_closes",36),("_law_own",37),("_law_signed",38),("_law_turned",39),("_law_rule_name",40),("_law_due",41),("_law_told",42),("law",43)]
noncomputable def gls:List D:=[.tup [.str "yes",.str "no",.str "word"],.tup [.str "all",.str "some"],.tup [.tup [.str "right",.str "and"],.tup [.str "left",.str "or"],.tup [.str "left",.str "if"]],.tup [.tup [.str "right",.str "all"],.tup [.str "left",.str "some"]],.tup [.str "close"]]
noncomputable def gns:List Str:=["LEAVES","BINDERS","FORKS","OWN","CLOSE"]
inductive U | neg | all | ex
inductive B | and | or | imp
noncomputable def U.s:U->Str | .neg=>"not" | U.all=>"all" | .ex=>"some"
noncomputable def B.s:B->Str | .and=>"and" | .or=>"or" | .imp=>"if"
noncomputable def up:U->Int | .neg=>0 | _=>1
inductive F where
 | yes | no | word (w:Str) (ts:List Str) | un (u:U) (a:F) | bi (b:B) (x y:F)
noncomputable def hd:F->Str
 | .yes=>"yes" | .no=>"no" | .word _ _=>"word" | .un u _=>u.s | .bi b _ _=>b.s
noncomputable def enc:F->D
 | .yes=>.tup [.str "yes"]
 | .no=>.tup [.str "no"]
 | .word w ts=>.tup [.str "word",.str w,.tup (ts.map .str)]
 | .un u a=>.tup [.str u.s,enc a]
 | .bi b x y=>.tup [.str b.s,enc x,enc y]
noncomputable def tl:F->List D
 | .yes | .no=>[]
 | .word w ts=>[.str w,.tup (ts.map .str)]
 | .un _ a=>[enc a]
 | .bi _ x y=>[enc x,enc y]
theorem iT (A:F):enc A = .tup (.str (hd A)::tl A):=by cases A<;>rfl
noncomputable def kd:F->Nat
 | .yes=>0 | .no=>1 | .word _ _=>2 | .un _ _=>3 | .bi _ _ _=>4
noncomputable def kdS (s:Str):Nat:=if s = "yes" then 0 else if s = "no" then 1 else if s = "word" then 2 else if s = "not" then 3 else if s = "all" then 3 else if s = "some" then 3 else 4
theorem FW:∀ A:F,kdS (hd A) = kd A
 | .yes=>(by decide +kernel:kdS "yes" = 0)
 | .no=>(by decide +kernel:kdS "no" = 1)
 | .word _ _=>(by decide +kernel:kdS "word" = 2)
 | .un .neg _=>(by decide +kernel:kdS "not" = 3)
 | .un .all _=>(by decide +kernel:kdS "all" = 3)
 | .un .ex _=>(by decide +kernel:kdS "some" = 3)
 | .bi .and _ _=>(by decide +kernel:kdS "and" = 4)
 | .bi .or _ _=>(by decide +kernel:kdS "or" = 4)
 | .bi .imp _ _=>(by decide +kernel:kdS "if" = 4)
theorem oY {A B:F} (h:hd A = hd B):kd A = kd B:=by rw [<- FW A,<- FW B,h]
noncomputable def sz:F->Nat
 | .un _ a=>sz a+1
 | .bi _ x y=>sz x+sz y+1
 | _=>1
theorem lK (x:Str):dep (.str x) = 0:=by unfold dep;rfl
theorem nA:∀ ts:List Str,bZ (ts.map D.str) = 0
 | []=>by unfold bZ;rfl
 | t::ts=>by rw [aP];unfold bZ;rw [nA ts,lK];rfl
noncomputable def hF:F->Nat
 | .un _ a=>hF a+1
 | .bi _ x y=>max (hF x) (hF y)+1
 | _=>1
theorem Aq:∀ A:F,hF A<=sz A
 | .yes | .no | .word _ _=>aA _
 | .un _ a=>by have:=Aq a;simp only [hF,sz];lia
 | .bi _ x y=>by have:=Aq x;have:=Aq y;simp only [hF,sz];lia
theorem kZ:∀ A:F,dep (enc A)<=hF A+1
 | .yes | .no=>by unfold enc;simp [dep,bZ,hF]
 | .word w ts=>by unfold enc;simp [dep,bZ,nA,hF]
 | .un b a=>by have:=kZ a;unfold enc;simp [dep,bZ,hF];lia
 | .bi b x y=>by have:=kZ x;have:=kZ y;unfold enc;simp [dep,bZ,hF];lia
theorem Az (A:F):dep (enc A)<=sz A+1:=by have:=kZ A;have:=Aq A;lia
theorem Ax:∀ ts us:List Str,gy (ts.map D.str) (us.map D.str) = true->ts = us
 | [],[],_=>rfl
 | [],_::_,h=>by unfold gy at h;cases h
 | _::_,[],h=>by unfold gy at h;cases h
 | t::ts,u::us,h=>by
   rw [aP,aP] at h;unfold gy eqD at h;rw [aa] at h;rw [show t = u by simpa using h.1,Ax ts us h.2]
theorem pb {A B:F} (h:eqD (enc A) (enc B) = true):hd A = hd B/\gy (tl A) (tl B) = true:=by
 rw [iT,iT] at h;unfold eqD gy eqD at h;rw [aa] at h;exact ⟨by simpa using h.1,h.2⟩
theorem OR {a b:D} (h:gy [a] [b] = true):eqD a b = true:=by
 unfold gy at h;rw [aa] at h;exact h.1
theorem MT {a b x y:D} (h:gy [a,x] [b,y] = true):eqD a b = true/\eqD x y = true:=by
 unfold gy at h;rw [aa] at h;exact ⟨h.1,OR h.2⟩
theorem Ng:∀ b c:B,b.s = c.s->b = c
 | .and,.and,_ | .or,.or,_ | .imp,.imp,_=>rfl
 | .and,.or,h | .and,.imp,h | .or,.and,h | .or,.imp,h | .imp,.and,h | .imp,.or,h=>absurd h (by decide +kernel)
theorem KS:∀ b c:U,b.s = c.s->b = c
 | .neg,.neg,_ | .all,.all,_ | .ex,.ex,_=>rfl
 | .neg,.all,h | .neg,.ex,h | .all,.neg,h | .all,.ex,h | .ex,.neg,h | .ex,.all,h=>absurd h (by decide +kernel)
theorem uW:∀ A B:F,eqD (enc A) (enc B) = true->A = B
 | .yes,B,h=>by
   have this:=oY (pb h).1
   cases B with
   | yes=>rfl
   | _=>exact absurd this (by simp [kd])
 | .no,B,h=>by
   have this:=oY (pb h).1
   cases B with
   | no=>rfl
   | _=>exact absurd this (by simp [kd])
 | .word w ts,B,h=>by
   have this:=oY (pb h).1;have h2:=(pb h).2
   cases B with
   | word v us =>
     obtain ⟨h3,h4⟩:=MT h2;unfold eqD at h3 h4
     rw [show w = v by simpa using h3,Ax ts us h4]
   | _=>exact absurd this (by simp [kd])
 | .un b a,B,h=>by
   have this':=(pb h).1;have this:=oY this';have h2:=(pb h).2
   cases B with
   | un c d=>rw [KS b c this',uW a d (OR h2)]
   | _=>exact absurd this (by simp [kd])
 | .bi b x y,B,h=>by
   have this':=(pb h).1;have this:=oY this';have h2:=(pb h).2
   cases B with
   | bi c u v =>
     obtain ⟨h3,h4⟩:=MT h2
     rw [Ng b c this',uW x u h3,uW y v h4]
   | _=>exact absurd this (by simp [kd])
noncomputable def sd (L:Bool):Str:=if L then "left" else "right"
abbrev It:=Bool × F
noncomputable def itD (p:It):D:=.tup [.str (sd p.1),enc p.2]
theorem Lv:∀ b c:Bool,sd b = sd c->b = c:=by decide +kernel
theorem Gz {p q:It} (h:eqD (itD p) (itD q) = true):p = q:=by
 unfold itD eqD at h;obtain ⟨h1,h2⟩:=MT h;unfold eqD at h1;obtain ⟨a,A⟩:=p;obtain ⟨b,B⟩:=q;rw [show a = b from Lv a b (by simpa using h1),show A = B from uW A B h2]
noncomputable def low (ps:List It):Prop:=∀ p∈ps,sz p.2<=61
theorem ke (p:It) (h:sz p.2<=61):dep (itD p)<=64:=by
 have:=Az p.2;unfold itD;simp only [dep,bZ,lK]
 lia
theorem nB:∀ {ps:List It},low ps->bZ (ps.map itD)<=64
 | [],_=>by show bZ ([]:List D)<=64;unfold bZ;lia
 | p::ps,h=>by
   rw [aP];unfold bZ;have:=ke p (h p ao);have:=nB (ps:=ps) fun q hq=>h q (aq _ hq)
   lia
theorem eq_self (p:It) (h:sz p.2<=61):eqD (itD p) (itD p) = true:=nu _ (by have:=ke p h;lia)
noncomputable def has (ps:List It) (q:It):Bool:=(ps.map itD).any fun y=>eqD y (itD q)
theorem lI {ps:List It} {q:It} (h:low ps):has ps q = true↔q∈ps:=by
 unfold has;rw [eH];constructor
 . rintro ⟨y,hy,e⟩;obtain ⟨p,hp,rfl⟩:=aU.mp hy;rw [<- Gz e];exact hp
 . intro hq;exact ⟨_,iW hq,eq_self q (h q hq)⟩
theorem Ak {ps:List It} {q:It} (h:low ps) (hq:sz q.2<=61):dep (itD q)<=150/\bZ (ps.map itD) < 99999:=⟨by have:=ke q hq;lia,by have:=nB h;lia⟩
theorem ltn (ys:List D):(dX [] ys).isSome = true:=by cases ys<;>(unfold dX;rfl)
theorem PH (ys:List D):(dX ys []).isSome = true:=by cases ys<;>(unfold dX;rfl)
theorem ltc {x y:D} {xs ys:List D} (h:(ltD x y).isSome = true) (h2:(dX xs ys).isSome = true):(dX (x::xs) (y::ys)).isSome = true:=by
 unfold dX;split
 . exact h2
 . exact h
theorem lts {s t:Str} {xs ys:List D} (h:s = t->(dX xs ys).isSome = true):(dX (.str s::xs) (.str t::ys)).isSome = true:=by
 unfold dX;split
 . rename_i e;exact h (by unfold eqD at e;simpa using e)
 . unfold ltD;rfl
theorem zZ:∀ xs ys:List Str,(dX (xs.map D.str) (ys.map D.str)).isSome = true
 | [],ys=>ltn _
 | xs,[]=>PH _
 | x::xs,y::ys=>lts fun _=>zZ xs ys
theorem kR {xs ys:List D} (h:(dX xs ys).isSome = true):(ltD (.tup xs) (.tup ys)).isSome = true:=by unfold ltD;exact h
theorem rh:∀ A B:F,(ltD (enc A) (enc B)).isSome = true
 | .yes,B=>by rw [iT B];exact kR (lts fun _=>ltn _)
 | .no,B=>by rw [iT B];exact kR (lts fun _=>ltn _)
 | .word w ts,B=>by
   rw [iT B];refine kR (lts fun e=>?_);have e:hd (.word w ts) = hd B:=e
   cases B with
   | word v us=>exact lts fun _=>ltc (kR (zZ ts us)) (ltn _)
   | _=>exact absurd (oY e) (by simp [kd])
 | .un b a,B=>by
   rw [iT B];refine kR (lts fun e=>?_);have e:hd (.un b a) = hd B:=e
   cases B with
   | un c d=>exact ltc (rh a d) (ltn _)
   | _=>exact absurd (oY e) (by simp [kd])
 | .bi b x y,B=>by
   rw [iT B];refine kR (lts fun e=>?_);have e:hd (.bi b x y) = hd B:=e
   cases B with
   | bi c u v=>exact ltc (rh x u) (ltc (rh y v) (ltn _))
   | _=>exact absurd (oY e) (by simp [kd])
theorem ur {row:List It} (h:low row) (hl:row.length < 64):sortable (row.map itD) = true:=by
 unfold PP.sortable;simp only [aa,decide_eq_true_eq,bx];refine ⟨⟨by rw [aj];exact hl,fun x hx=>?_⟩,fun x hx y hy=>?_⟩
 . have k:∀ d∈row.map itD,bH d = 3:=fun d hd=>by
    obtain ⟨p,_,rfl⟩:=aU.mp hd;rfl
   cases e:row.map itD with
   | nil=>rw [e] at hx;cases hx
   | cons z zs =>
     have e2:bH ((z::zs).getD 0 .non) = 3:=k z (by rw [e];exact ao);rw [k x hx,e2];exact ⟨rfl,rfl⟩
 . obtain ⟨p,hp,rfl⟩:=aU.mp hx;obtain ⟨q,hq,rfl⟩:=aU.mp hy;have:=ke p (h p hp);have:=ke q (h q hq);unfold kS;rw [if_pos (by lia)];exact kR (lts fun _=>ltc (rh _ _) (ltn _))
instance:Inhabited F:=⟨.yes⟩
theorem lF {α:Type} [Inhabited α] (g:α->D) (xs:List α):∃ ys:List α,dh (xs.map g) = ys.map g/\ys.Perm xs:=by
 unfold dh;rw [aj];split
 . exact ⟨xs,rfl,.refl _⟩
 . have p:=fy (lt:=gB (xs.map g)) xs.length;refine ⟨(ans (gB (xs.map g)) (PySem.W.kas_sort xs.length)).toList.map fun i=>xs.getD i default,?_,?_⟩
   . rw [pE];refine mH fun i hi=>?_;have hi:i < xs.length:=gK.mp (p.mem_iff.mp hi);show (xs.map g).getD i .non = g (xs.getD i default);rw [fJ,bj,fJ,ax hi];rfl
   . refine (p.map _).trans ?_;rw [sO default (fun x=>x) xs,List.map_id']
noncomputable def srt (xs:List It):List It:=Classical.choose (lF itD xs)
theorem Lf (xs:List It):dh (xs.map itD) = (srt xs).map itD:=(tW (lF itD xs)).1
theorem mO (xs:List It):(srt xs).Perm xs:=(tW (lF itD xs)).2
noncomputable def isL (acc:List It) (x:It):Bool:=match acc.getLast? with
 | some y=>eqD (itD y) (itD x)
 | none=>false
noncomputable def dd:List It->List It->List It
 | acc,[]=>acc
 | acc,x::xs=>dd (if isL acc x = true then acc else acc++[x]) xs
noncomputable def mo (l:List It):List It:=dd [] (srt l)
theorem Ju {acc:List It} {x:It} (h:isL acc x = true):x∈acc:=by
 unfold isL at h;split at h
 . rename_i y e;rw [<- Gz h];exact List.mem_of_getLast? e
 . cases h
theorem GC {p:It}:∀ (xs acc:List It),p∈dd acc xs↔p∈acc\/p∈xs
 | [],acc=>by simp [dd]
 | x::xs,acc=>by
   unfold dd;rw [GC xs];split
   . rename_i h;have:=Ju h;constructor
     . rintro (z | z)
       . exact .inl z
       . exact .inr (aq _ z)
     . rintro (z | z)
       . exact .inl z
       . rcases aD.mp z with z | z
         . rw [z];exact .inl this
         . exact .inr z
   . rw [br,bU,aD,or_assoc]
theorem GD:∀ (xs acc:List It),(dd acc xs).length<=acc.length+xs.length
 | [],acc=>by simp [dd]
 | x::xs,acc=>by
   unfold dd;have:=GD xs (if isL acc x = true then acc else acc++[x])
   have h2:(if isL acc x = true then acc else acc++[x]).length<=acc.length+1:=by
    split
    . lia
    . rw [ar];simp
   rw [ay]
   lia
theorem FC {p:It} {l:List It}:p∈mo l↔p∈l:=by
 unfold mo;rw [GC,(mO l).mem_iff];simp
theorem Mz (l:List It):(mo l).length<=l.length:=by
 unfold mo;have:=GD (srt l) [];rw [(mO l).length_eq] at this;simpa using this
theorem FE {l:List It} (h:low l):low (mo l):=fun p hp=>h p (FC.mp hp)
theorem low.app {a b:List It} (h:low a) (h2:low b):low (a++b):=fun p hp=>(br.mp hp).elim (h p) (h2 p)
theorem low.one {p:It} (h:sz p.2<=61):low [p]:=fun q hq=>by rw [bU.mp hq];exact h
theorem An:∀ ts:List Str,hbL (ts.map D.str) = true
 | []=>by unfold hbL;rfl
 | t::ts=>by rw [aP];unfold hbL;rw [An ts];unfold hb;rfl
theorem rE:∀ A:F,hb (enc A) = true
 | .yes | .no=>by unfold enc;decide +kernel
 | .word w ts=>by unfold enc;simp only [hb,hbL,An,cB]
 | .un b a=>by unfold enc;simp only [hb,hbL,rE a,cB]
 | .bi b x y=>by unfold enc;simp only [hb,hbL,rE x,rE y,cB]
theorem OK (p:It):hb (itD p) = true:=by unfold itD;simp only [hb,hbL,rE,cB]
theorem Jo {l:List D} {y:D}:atI (l++[y]) (-1) = some y:=by
 unfold atI ixN;rw [if_neg (by decide),if_pos (by simp;lia)];show (l++[y])[(-1+((l++[y]).length:Int)).toNat]? = some y;have e:(-1+((l++[y]).length:Int)).toNat = l.length:=by rw [ar];simp;lia
 rw [e,aS (aA _),zm];rfl
theorem OB {p q:It} (hp:sz p.2<=61) (hq:sz q.2<=61) {Q:Bool->Prop} (k:Q (!eqD (itD p) (itD q))):jR .ne (itD p) (itD q) Q:=by
 refine ⟨_,?_,k⟩;show (if iU (itD p) (itD q) = true then some (!eqD (itD p) (itD q)) else none) = _;have:=ke p hp;have:=ke q hq;rw [if_pos (by unfold iU;rw [show kin (itD p) (itD q) = true from rfl,iz,aa,decide_eq_true_eq,decide_eq_true_eq];lia)]
theorem s64:(1000:Nat) < sizeLine:=by decide +kernel
theorem Gb (l:List It) (y x:It):isL (l++[y]) x = eqD (itD y) (itD x):=by
 unfold isL;rw [List.getLast?_append,List.getLast?_singleton];rfl
theorem low.tail {x:It} {xs:List It} (h:low (x::xs)):low xs:=fun p hp=>h p (aq _ hp)
theorem EK (n:Nat) (l:List It) (h:low l) (hl:l.length < 64):PP.run Gs gls (n+1) 6 [.lst (l.map itD)] = some (.tup ((mo l).map itD)):=by
 apply bu;refine bq iD rfl rfl rfl ?_;simp only [iD,init,SI,Nat.reduceAdd,Nat.reduceSub];simp only [↓WS,↓WC,WI,↓reduceIte];refine ⟨by decide,ur h hl,?_⟩;rw [Lf];refine mK (g:=itD) (fun rest δ=>∃ (acc:List It) (s:Sl),δ = [.val (.lst (l.map itD)),.own (acc.map itD),s]/\low acc/\low rest/\dd acc rest = mo l/\acc.length+rest.length < 64) ?_ ?_ _ _ ⟨[],_,rfl,(fun p hp=>by cases hp),(fun p hp=>h p ((mO l).mem_iff.mp hp)),rfl,by rw [aB,(mO l).length_eq];lia⟩
 . rintro x rest δ ⟨acc,s,rfl,ha,hr,e,hlen⟩;rw [ay] at hlen;have hx:=hr x ao;have ss:=s64;rw [dd] at e
   have app:isL acc x = false->∃ (acc':List It) (s:Sl),([.val (.lst (l.map itD)),.own (acc.map itD++[itD x]),.val (itD x)]:PP.Loc) = [.val (.lst (l.map itD)),.own (acc'.map itD),s]/\low acc'/\low rest/\dd acc' rest = mo l/\acc'.length+rest.length < 64:=fun z=>by
    rw [z,if_neg au] at e;exact ⟨acc++[x],_,by rw [bE];rfl,ha.app (.one hx),hr.tail,e,by rw [ar];simp only [ay,aB];lia⟩
   rcases List.eq_nil_or_concat acc with rfl | ⟨l',y,rfl⟩
   . simp only [fQ,↓WS,↓WC,WI,↓reduceIte];exact ⟨by decide,app rfl⟩
   . rw [List.concat_eq_append] at e hlen app ha ⊢;have hy:=ha y (by simp);rw [bE] at app ⊢;have hne:(!!(l'.map itD++[y].map itD).isEmpty) = false:=by cases l'<;>rfl
     simp only [hne,↓WS,↓WC,WI,↓reduceIte];refine ⟨itD y,Jo,OB hy hx ?_⟩;rw [Gb] at app e
     cases eb:eqD (itD y) (itD x) with
     | true =>
       rw [eb,if_pos rfl] at e
       exact ⟨l'++[y],_,by rw [bE],ha,hr.tail,e,by lia⟩
     | false=>exact ⟨by simp only [ar,aj,ay,aB] at hlen ⊢;lia,app eb⟩
 . rintro δ ⟨acc,s,rfl,_,_,e,_⟩;simp only [↓WS,↓WC,WI,↓reduceIte];rw [<- e];rfl
theorem Ly (n:Nat) (r ad:List It) (a:D) (ha:a = .lst (ad.map itD)\/a = .tup (ad.map itD)) (h:low (r++ad)) (hl:r.length+ad.length < 64):PP.run Gs gls (n+2) 7 [.tup (r.map itD),a] = some (.tup ((mo (r++ad)).map itD)):=by
 have w:=EK n (r++ad) h (by rw [ar];exact hl);rw [bE] at w;have ss:=s64;apply bu;refine bq va rfl rfl rfl ?_;simp only [va,init,SI,Nat.reduceAdd,Nat.reduceSub];rcases ha with rfl | rfl
 . simp only [↓WS,↓WC,WI,↓reduceIte];exact ⟨by rw [aj,aj];lia,(bc w).mpr rfl⟩
 . simp only [↓WS,↓WC,WI,↓reduceIte];exact ⟨by rw [aj,aj];lia,(bc w).mpr rfl⟩
noncomputable def cl (ps:List It):Bool:=has ps (false,.yes) || (has ps (true,.no) || ps.any fun p=>p.1 && has ps (false,p.2))
noncomputable def clo (S:It->Prop):Prop:=S (false,.yes)\/S (true,.no)\/∃ A,S (true,A)/\S (false,A)
theorem vh {ps:List It} (h:low ps):cl ps = true↔clo (·∈ps):=by
 unfold cl clo;rw [cD,cD,lI h,lI h,eH];refine or_congr cH (or_congr cH ⟨?_,?_⟩)
 . rintro ⟨⟨b,A⟩,hp,e⟩;rw [aa,lI h] at e;obtain ⟨e1,e2⟩:=e
   cases b with
   | true=>exact ⟨A,hp,e2⟩
   | false=>cases e1
 . rintro ⟨A,h1,h2⟩;exact ⟨(true,A),h1,by rw [aa,lI h];exact ⟨rfl,h2⟩⟩
theorem tK {α:Type} (f:α->Bool):∀ xs:List α,mB (xs.map fun x=>D.bl (f x)) = some (xs.map f)
 | []=>rfl
 | x::xs=>by
   rw [aP];unfold mB;rw [tK f xs];rfl
theorem any_map {α:Type} (f:α->Bool) (xs:List α) {Q:D->Prop} (q:Q (.bl (xs.any f))):mN .any [.lst (xs.map fun x=>D.bl (f x))] Q:=by
 refine ⟨.bl (xs.any f),?_,q⟩;show (mB (xs.map fun x=>D.bl (f x))).map (fun bs=>D.bl (bs.any id)) = _;rw [tK];show some (D.bl ((xs.map f).any id)) = _;rw [List.any_map];rfl
theorem Lu (b:Bool):(sd b == "left") = b:=by cases b<;>decide +kernel
theorem EL (n:Nat) (ps:List It) (h:low ps) (hl:ps.length<=1000):PP.run Gs gls (n+1) 8 [.tup (ps.map itD)] = some (.bl (cl ps)):=by
 have ss:=s64;apply bu;refine bq nE rfl rfl rfl ?_;simp only [nE,init,SI,Nat.reduceAdd,Nat.reduceSub];simp only [ay,aB,↓vN,↓WS,↓WC,WI,↓reduceIte];have dl:=nB h;refine ⟨by decide,by decide,⟨by decide +kernel,by lia⟩,kA (fun h1=>?_) fun h1=>⟨by decide,by decide,⟨by decide +kernel,by lia⟩,kA (fun h2=>?_) fun h2=>?_⟩⟩
 . have e:has ps (false,.yes) = true:=h1;unfold cl;rw [e];rfl
 . have e:has ps (true,.no) = true:=h2;unfold cl;rw [e,iX,pI]
 . have e1:has ps (false,.yes) = false:=dQ.mpr h1;have e2:has ps (true,.no) = false:=dQ.mpr h2;refine iJ itD (fun _=>true) (fun p=>.bl (p.1 && has ps (false,p.2))) ps (fun p hp=>?_) ⟨?_,?_⟩
   . obtain ⟨b,A⟩:=p;show wTg [Sl.val (D.tup (ps.map itD)),.no,.no] (Tg.tp [1,2]) (D.tup [D.str (sd b),enc A]) _;simp only [↓mI,Lu,SI,↓WS,↓WC,WI,↓reduceIte];refine ⟨trivial,?_⟩
     cases b with
     | false=>exact ⟨rfl,rfl⟩
     | true=>exact ⟨by decide,Ak (q:=(false,A)) h (h (true,A) hp),rfl,rfl⟩
   . rw [aj,eA.mpr fun _ _=>rfl];lia
   . rw [eA.mpr fun _ _=>rfl];refine any_map _ _ ?_;unfold cl;rw [e1,e2];rfl
noncomputable def nm (t:Str):Prop:=∃ c r,t.cps.toList = c::r/\97<=c/\c<=122
noncomputable def okF:F->Prop
 | .word _ ts=>ts.length<=1000
 | .un _ a=>okF a
 | .bi _ x y=>okF x/\okF y
 | _=>True
noncomputable def tms:F->List Str
 | .word _ ts=>ts
 | .un _ a=>tms a
 | .bi _ x y=>tms x++tms y
 | _=>[]
noncomputable def gG (f:Str->Int->Str):F->Int->F
 | .word w ts,k=>.word w (ts.map fun t=>f t k)
 | .un u a,k=>.un u (gG f a (k+up u))
 | .bi b x y,k=>.bi b (gG f x k) (gG f y k)
 | A,_=>A
theorem qe (f:Str->Int->Str):∀ (A:F) (k:Int),hF (gG f A k) = hF A
 | .yes,_ | .no,_ | .word _ _,_=>rfl
 | .un u a,k=>by simp only [gG,hF,qe f a]
 | .bi b x y,k=>by simp only [gG,hF,qe f x,qe f y]
mutual
theorem Ac:∀ ts:List Str,lfL (ts.map D.str) = true
 | []=>by unfold lfL;rfl
 | t::ts=>by rw [aP];unfold lfL lf;exact Ac ts
end
theorem uO:∀ A:F,lf (enc A) = true
 | .yes | .no=>by unfold enc;decide +kernel
 | .word w ts=>by unfold enc;simp only [lf,lfL,Ac,cB]
 | .un u a=>by unfold enc;simp only [lf,lfL,uO a,cB]
 | .bi b x y=>by unfold enc;simp only [lf,lfL,uO x,uO y,cB]
noncomputable def lvs:List D:=[.str "yes",.str "no",.str "word"]
noncomputable def bds:List D:=[.str "all",.str "some"]
theorem NK {f:Nat->List D->Option D} {h:Nat->Bool} {δ:PP.Loc} {Q:D->PP.Loc->Prop}:wE ⟨f,gls,h⟩ (.glob 1) δ Q↔Q (.tup bds) δ:=by
 rw [zr];exact ⟨fun ⟨_,e,q⟩=>by cases e;exact q,fun q=>⟨_,rfl,q⟩⟩
theorem Kd:(("word":Str) == "word") = true:=by decide +kernel
theorem ua {a:D} {ds:List D} {Q:D->Prop}:wSl (.tup (a::ds)) (some 1) none Q↔Q (.tup ds):=by
 have e1:HT.sIx (a::ds).length 0 (some 1) = 1:=by
  rw [show (1:Int) = ((1:Nat):Int) from rfl,HT.sIx_nat];simp
 have e2:HT.sIx (a::ds).length (a::ds).length none = (a::ds).length:=rfl;unfold wSl slD;dsimp only;rw [e1,e2,if_neg (by simp)];unfold cutD;rw [e1,e2];simp
noncomputable def Lm (kk:Nat) (cs:List D) (f:Str->Int->Str) (p:Str->Prop):Prop:=∀ (n:Nat) (t:Str) (k:Int),p t->0<=k->k < 1000->PP.run Gs gls (n+2) kk (.str t::.int k::cs) = some (.str (f t k))
noncomputable def upk (u:U) (k:Int):Int:=match u with | .neg=>k | _=>k+1
theorem KU (u:U) (k:Int):upk u k = k+up u:=by cases u<;>simp [upk,up]
theorem DT (u:U) (k:Int):k<=upk u k/\upk u k<=k+1:=by cases u<;>simp [upk]<;>lia
theorem ux {kk:Nat} {cs:List D} {f:Str->Int->Str} {p:Str->Prop} (hm:Lm kk cs f p):∀ (A:F) (n:Nat) (k:Int),hF A+2<=n->0<=k->k+hF A < 1000->okF A->(∀ t∈tms A,p t)->PP.run Gs gls n 4 [enc A,.int k,.fn kk cs] = some (enc (gG f A k))
 | .yes,n+3,k,h,h0,h1,o,hp=>by kernel_rfl
 | .no,n+3,k,h,h0,h1,o,hp=>by kernel_rfl
 | .word w ts,n+3,k,h,h0,h1,o,hp=>by
   have o':ts.length<=1000:=o;apply bu;unfold enc;refine oa du rfl rfl rfl rfl ?_;simp only [du,oZ,vE,SI,Nat.reduceAdd,Nat.reduceSub];simp only [Kd,ay,aB,↓WS,↓WC,WI,↓reduceIte];refine iJ D.str (fun _=>true) (fun t=>.str (f t k)) ts ?_ ?_
   . intro t hF';simp only [SI,↓WS,↓WC,WI,↓reduceIte];refine ⟨trivial,by simp [lfL,lf],?_⟩;rw [bc (hm n t k (hp t hF') h0 (by simp only [hF] at h1;lia))];exact ⟨by simp [lf],rfl,rfl⟩
   . have e:(ts.filter fun _=>true) = ts:=eA.mpr fun _ _=>rfl;rw [e];refine ⟨by rw [aj];exact small o',?_⟩;refine ⟨by decide,?_⟩;show D.tup [_,_,D.tup (ts.map fun t=>D.str (f t k))] = D.tup [.str "word",.str w,.tup ((ts.map fun t=>f t k).map .str)];rw [pE]
     rfl
 | .un u a,n+3,k,h,h0,h1,o,hp=>by
   have ih:=ux hm a (n+2) (upk u k) (by simp only [hF] at h;lia) (by have:=DT u k;lia) (by have:=DT u k;simp only [hF] at h1;lia) o hp;have wi:PP.run Gs gls (n+2) 0 [enc (.un u a)] = some (.tup [enc a]):=by cases u<;>kernel_rfl
   apply bu;refine oa du rfl rfl rfl rfl ?_;simp only [du,oZ,vE,SI,Nat.reduceAdd,Nat.reduceSub];refine dU 3 [.val (enc (.un u a)),.val (.int k),.fnc kk cs,.val (.str u.s),.val (.int (upk u k))] (by cases u<;>kernel_rfl) ?_;simp only [fU,↓bc wi,↓iI,↓gM,SI,xT,Nat.reduceAdd,↓bc ih,↓WS,↓WC,WI,↓reduceIte];refine ⟨by decide,rfl,by decide,by decide,?_⟩;rw [KU]
   rfl
 | .bi b x y,n+3,k,h,h0,h1,o,hp=>by
   have ih1:=ux hm x (n+2) k (by simp only [hF] at h;lia) (by lia) (by simp only [hF] at h1;lia) o.1 fun t z=>hp t (cJ _ z);have ih2:=ux hm y (n+2) k (by simp only [hF] at h;lia) (by lia) (by simp only [hF] at h1;lia) o.2 fun t z=>hp t (aV _ z);have wi:PP.run Gs gls (n+2) 0 [enc (.bi b x y)] = some (.tup [enc x,enc y]):=by cases b<;>kernel_rfl
   apply bu;refine oa du rfl rfl rfl rfl ?_;simp only [du,oZ,vE,SI,Nat.reduceAdd,Nat.reduceSub];refine dU 3 [.val (enc (.bi b x y)),.val (.int k),.fnc kk cs,.val (.str b.s),.val (.int k)] (by cases b<;>kernel_rfl) ?_;simp only [fU,↓bc wi,↓iI,↓gM,SI,xT,Nat.reduceAdd,↓bc ih1,↓bc ih2,↓WS,↓WC,WI,↓reduceIte]
   exact ⟨by decide,rfl,rfl,by decide,by decide,rfl⟩
 | A,0,k,h,h0,h1,o,hp=>by lia
 | A,1,k,h,h0,h1,o,hp=>by lia
 | A,2,k,h,h0,h1,o,hp=>by cases A<;>simp only [hF] at h<;>lia
theorem tq {i:Int} (h0:0<=i) (h1:i < 1000):i.natAbs.log2 < 1920:=by
 have:i.natAbs < 1000:=by lia
 rcases oU i.natAbs with e | e
 . rw [e];decide
 . have:=(CP (k:=10) (Nat.pos_iff_ne_zero.mp e)).mpr (by lia)
   lia
noncomputable def isN (t:Str):Bool:=!(decide (t.length > 0) && t.cps.all da)
theorem uT {t:Str} (h:nm t):isN t = true:=by
 obtain ⟨c,r,e,h1,h2⟩:=h
 have hc:da c = false:=by
  have:∀ c:Nat,c < 123->97<=c->da c = false:=by decide +kernel
  exact this c (by lia) h1
 have:t.cps.all da = false:=by
  rw [<- Hn,e];simp [hc]
 unfold isN;rw [this];simp
noncomputable def pl (j:Int):Str:=toString j
theorem BU (m:Nat):∀ c∈(pl (m:Int)).cps.toList,48<=c/\c<=57:=fun c hc=>by
 unfold pl at hc;rw [PySem.W.KIN.signs_num] at hc;obtain ⟨ch,hch,e⟩:=aU.mp hc;have r:=PyProof.Rows.digit_range (Nat.isDigit_of_mem_toDigits (by decide) (by decide) hch);rw [<- e];exact r
theorem uA {j:Int} (h0:0<=j) (h1:j < 1000):PySem.intText? (pl j) = some j:=PySem.W.KIN.num_reads h0 (by lia)
theorem LK {j:Int} (h0:0<=j) (h1:j < 1000):(pl j).length<=640:=aX (PySem.W.KT.len_num h0 (by lia)) (by decide)
theorem qP {j:Int} (h0:0<=j):isN (pl j) = false:=by
 obtain ⟨m,rfl⟩:=yd h0
 have h1:(pl (m:Int)).cps.all da = true:=by
  rw [<- Hn,bx];intro c hc;have:∀ c:Nat,c < 58->48<=c->da c = true:=by decide +kernel
  obtain ⟨a,b⟩:=BU m c hc;exact this c (by lia) a
 have h2:(pl (m:Int)).length > 0:=by
  have:(pl (m:Int)).cps.toList≠[]:=by
   unfold pl;rw [PySem.W.KIN.signs_num];intro e;have h:=PySem.toDigits_len_ge 10 m;rw [List.map_eq_nil_iff.mp e] at h;exact absurd h (by decide)
  rw [<- str_len];exact CT.mpr this
 unfold isN;rw [h1,decide_eq_true h2];rfl
theorem OA {t:Str} (h:nm t) {j:Int} (h0:0<=j):(t == pl j) = false:=by
 cases e:(t == pl j) with
 | false=>rfl
 | true =>
   have e':t = pl j:=by simpa using e
   have:=uT h;rw [e',qP h0] at this;cases this
noncomputable def Pd (t:Str):Prop:=nm t\/∃ j:Int,0<=j/\j < 10/\t = pl j
noncomputable def pf (new t:Str) (k:Int):Str:=if isN t = false/\PySem.intText? t = some k then new else t
theorem JR (n:Nat) (t:Str):PP.run Gs gls (n+1) 1 [.str t] = some (.bl (!isN t)):=by
 apply bu;refine bq kl rfl rfl rfl ?_;simp only [kl,init,SI,Nat.reduceAdd,Nat.reduceSub];simp only [↓vL,↓WS,↓WC,WI,↓reduceIte];simp [isN]
theorem OE (new:Str):Lm 35 [.str new] (pf new) Pd:=by
 intro n t k hp h0 h1;apply bu;refine bq d_lam0 rfl rfl rfl ?_;simp only [d_lam0,init,SI,Nat.reduceAdd,Nat.reduceSub];simp only [↓bc (JR _ _),↓WS,↓WC,WI,↓reduceIte];unfold pf;rcases hp with h | ⟨j,j0,j1,rfl⟩
 . simp [uT h]
 . have e1:=qP j0;have e2:=uA j0 (show j < 1000 by lia);simp only [e1,tY,↓Bv,e2,↓WS,↓WC,WI,↓reduceIte];refine ⟨LK j0 (by lia),j,rfl,?_⟩
   (try simp only [↓WS,↓WC,WI,↓reduceIte])
   split
   . rename_i h;rw [if_pos ⟨trivial,by rw [h]⟩]
   . rename_i h;rw [if_neg fun z=>h (aY z.2)]
theorem wu (A:F) (new:Str) (n:Nat) (h:hF A+2<=n) (h1:hF A < 1000) (o:okF A) (hp:∀ t∈tms A,Pd t):PP.run Gs gls (n+1) 5 [enc A,.str new] = some (enc (gG (pf new) A 0)):=by
 have r:=ux (OE new) A n 0 h (by decide) (by lia) o hp;apply bu;refine bq jF rfl rfl rfl ?_;simp only [jF,init,SI,Nat.reduceAdd,Nat.reduceSub];simp only [flat,fR,cC,↓bc r,uO,↓WS,↓WC,WI,↓reduceIte];exact ⟨trivial,rfl,trivial,trivial⟩
theorem Gk {cx:Cl} {c:E} {a b:Ss} {δ:PP.Loc} {Q:Out->Prop} (h:wT cx c δ fun k δ1=>k = false/\δ1 = δ) (q:wSs cx b δ Q):wS cx (.ifs c a b) δ Q:=Dr (δ0:=δ) (fun k=>k = false) (let ⟨k,δ1,e,p⟩:=h;⟨k,δ1,e,p.2,p.1⟩) (fun z=>by cases z) fun _=>q
theorem gW {cx:Cl} {c:E} {a b:Ss} {δ:PP.Loc} {Q:Out->Prop} (h:wT cx c δ fun k δ1=>k = true/\δ1 = δ) (q:wSs cx a δ Q):wS cx (.ifs c a b) δ Q:=Dr (δ0:=δ) (fun k=>k = true) (let ⟨k,δ1,e,p⟩:=h;⟨k,δ1,e,p.2,p.1⟩) (fun _=>q) fun z=>by cases z
noncomputable def brs (L:Bool) (nm:Str):F->List (List It)
 | .un .neg a=>[[(!L,a)]]
 | .un _ a=>[[(L,gG (pf nm) a 0)]]
 | .bi .and x y=>if L = true then [[(L,x),(L,y)]] else [[(L,x)],[(L,y)]]
 | .bi .or x y=>if L = true then [[(L,x)],[(L,y)]] else [[(L,x),(L,y)]]
 | .bi .imp x y=>if L = true then [[(!L,x)],[(L,y)]] else [[(!L,x),(L,y)]]
 | _=>[]
noncomputable def brD (l:List (List It)):D:=.lst (l.map fun b=>.lst (b.map itD))
theorem ID (n:Nat) (L:Bool) (nm:Str):∀ (A:F),hF A+6<=n->hF A < 1000->okF A->(∀ t∈tms A,Pd t)->PP.run Gs gls (n+1) 12 [.str (sd L),enc A,.str nm] = some (brD (brs L nm A))
 | .yes,h,_,_,_=>by obtain ⟨m,rfl⟩:∃ m,n = m+4:=⟨n - 4,by lia⟩;cases L<;>kernel_rfl
 | .no,h,_,_,_=>by obtain ⟨m,rfl⟩:∃ m,n = m+4:=⟨n - 4,by lia⟩;cases L<;>kernel_rfl
 | .word w ts,h,_,_,_=>by obtain ⟨m,rfl⟩:∃ m,n = m+4:=⟨n - 4,by lia⟩;cases L<;>kernel_rfl
 | .un .neg a,h,_,_,_=>by obtain ⟨m,rfl⟩:∃ m,n = m+4:=⟨n - 4,by lia⟩;cases L<;>kernel_rfl
 | .bi b x y,h,_,_,_=>by obtain ⟨m,rfl⟩:∃ m,n = m+4:=⟨n - 4,by lia⟩;cases L<;>cases b<;>kernel_rfl
 | .un .all a,h,h1,o,hp=>by
   simp only [hF] at h h1;obtain ⟨m,rfl⟩:∃ m,n = m+1:=⟨n - 1,by lia⟩;have r:=wu a nm m (by lia) (by lia) o hp;apply bu;refine bq lM rfl rfl rfl ?_;simp only [lM,init,SI,Nat.reduceAdd,Nat.reduceSub];refine dU 2 [.val (.str (sd L)),.val (enc (.un .all a)),.val (.str nm),.val (.str "all"),.no] (by kernel_rfl) (dz.mpr (gW ⟨true,_,by kernel_rfl,rfl,rfl⟩ ?_));simp only [enc,↓bc r,ay,aB,↓WS,↓WC,WI,↓reduceIte]
   exact ⟨by decide,by decide,by decide,rfl⟩
 | .un .ex a,h,h1,o,hp=>by
   simp only [hF] at h h1;obtain ⟨m,rfl⟩:∃ m,n = m+1:=⟨n - 1,by lia⟩;have r:=wu a nm m (by lia) (by lia) o hp;apply bu;refine bq lM rfl rfl rfl ?_;simp only [lM,init,SI,Nat.reduceAdd,Nat.reduceSub];refine dU 2 [.val (.str (sd L)),.val (enc (.un .ex a)),.val (.str nm),.val (.str "some"),.no] (by kernel_rfl) (dz.mpr (gW ⟨true,_,by kernel_rfl,rfl,rfl⟩ ?_));simp only [enc,↓bc r,ay,aB,↓WS,↓WC,WI,↓reduceIte];exact ⟨by decide,by decide,by decide,rfl⟩
noncomputable def qf (new t:Str) (k:Int):Str:=if (t == pl k) = true then new else t
theorem mh:∀ (A:F) (n:Nat) (nm:Str) (k:Int),hF A<=n->0<=k->k+hF A < 1000->okF A->PP.run Gs gls n 24 [enc A,.str nm,.int k] = some (enc (gG (qf nm) A k))
 | .yes,n+1,nm,k,h,h0,h1,o=>by kernel_rfl
 | .no,n+1,nm,k,h,h0,h1,o=>by kernel_rfl
 | .word w ts,n+1,nm,k,h,h0,h1,o=>by
   have o':ts.length<=1000:=o;have ss:=s64;apply bu;refine bq cZ rfl rfl rfl ?_;simp only [cZ,init,SI,Nat.reduceAdd,Nat.reduceSub];refine dz.mpr (gW ⟨true,_,by kernel_rfl,rfl,rfl⟩ ?_);refine dU 1 [.val (enc (.word w ts)),.val (.str nm),.val (.int k),.own [],.no] (by kernel_rfl) ?_;simp only [fU,enc,ay,aB,↓WS,↓WC,WI,↓reduceIte];refine mK (g:=D.str) (fun rest δ=>∃ (acc:List Str) (s:Sl),δ = [.val (.tup [.str "word",.str w,.tup (ts.map .str)]),.val (.str nm),.val (.int k),.own (acc.map .str),s]/\acc++rest.map (fun t=>qf nm t k) = ts.map (fun t=>qf nm t k)/\acc.length+rest.length<=1000) ?_ ?_ _ _ ⟨[],_,rfl,rfl,by simpa using o'⟩
   . rintro x rest δ ⟨acc,s,rfl,e,hl⟩;rw [ay] at hl;simp only [↓WS,↓WC,WI,↓reduceIte];rw [aP] at e;have hl2:(acc.map D.str).length < sizeLine:=by rw [aj];lia
     refine ⟨tq h0 (by simp only [hF] at h1;lia),kA (fun e1=>⟨hl2,acc++[nm],_,by rw [bE];rfl,?_,by rw [ar,bP];lia⟩) fun e1=>⟨hl2,acc++[x],_,by rw [bE];rfl,?_,by rw [ar,bP];lia⟩⟩
     . rw [<- e,show qf nm x k = nm from if_pos e1,jI];rfl
     . rw [<- e,show qf nm x k = x from if_neg e1,jI];rfl
   . rintro δ ⟨acc,s,rfl,e,_⟩;simp only [ay,aB,↓WS,↓WC,WI,↓reduceIte];refine ⟨by decide,?_⟩;rw [fQ,bX] at e;rw [e]
     rfl
 | .un .neg a,n+1,nm,k,h,h0,h1,o=>by
   have ih:=mh a n nm k (by simp only [hF] at h;lia) h0 (by simp only [hF] at h1;lia) o;apply bu;refine bq cZ rfl rfl rfl ?_;simp only [cZ,init,SI,Nat.reduceAdd,Nat.reduceSub];refine dU 2 [.val (enc (.un .neg a)),.val (.str nm),.val (.int k),.no,.no] (by kernel_rfl) ?_;simp only [fU,enc,↓ua,↓gM,↓iI,SI,xT,Nat.reduceAdd,↓WS,↓WC,WI,↓reduceIte]
   exact ⟨by decide,(bc ih).mpr ⟨by decide,by decide,by rw [show gG (qf nm) (.un .neg a) k = .un .neg (gG (qf nm) a k) by simp [gG,up]];rfl⟩⟩
 | .un .all a,n+1,nm,k,h,h0,h1,o=>by
   have ih:=mh a n nm (k+1) (by simp only [hF] at h;lia) (by lia) (by simp only [hF] at h1;lia) o;apply bu;refine bq cZ rfl rfl rfl ?_;simp only [cZ,init,SI,Nat.reduceAdd,Nat.reduceSub];refine dU 1 [.val (enc (.un .all a)),.val (.str nm),.val (.int k),.no,.no] (by kernel_rfl) (dz.mpr (gW ?_ ?_))
   . exact ⟨true,_,by kernel_rfl,rfl,rfl⟩
   simp only [enc,ay,aB,↓WS,↓WC,WI,↓reduceIte]
   exact (bc ih).mpr ⟨by decide,rfl⟩
 | .un .ex a,n+1,nm,k,h,h0,h1,o=>by
   have ih:=mh a n nm (k+1) (by simp only [hF] at h;lia) (by lia) (by simp only [hF] at h1;lia) o;apply bu;refine bq cZ rfl rfl rfl ?_;simp only [cZ,init,SI,Nat.reduceAdd,Nat.reduceSub];refine dU 1 [.val (enc (.un .ex a)),.val (.str nm),.val (.int k),.no,.no] (by kernel_rfl) (dz.mpr (gW ?_ ?_))
   . exact ⟨true,_,by kernel_rfl,rfl,rfl⟩
   simp only [enc,ay,aB,↓WS,↓WC,WI,↓reduceIte]
   exact (bc ih).mpr ⟨by decide,rfl⟩
 | .bi b x y,n+1,nm,k,h,h0,h1,o=>by
   have ih1:=mh x n nm k (by simp only [hF] at h;lia) h0 (by simp only [hF] at h1;lia) o.1;have ih2:=mh y n nm k (by simp only [hF] at h;lia) h0 (by simp only [hF] at h1;lia) o.2;apply bu;refine bq cZ rfl rfl rfl ?_;simp only [cZ,init,SI,Nat.reduceAdd,Nat.reduceSub];refine dU 2 [.val (enc (.bi b x y)),.val (.str nm),.val (.int k),.no,.no] (by cases b<;>kernel_rfl) ?_;simp only [fU,enc,↓ua,↓gM,↓iI,SI,xT,Nat.reduceAdd,↓WS,↓WC,WI,↓reduceIte]
   exact ⟨by decide,(bc ih1).mpr ((bc ih2).mpr ⟨by decide,by decide,rfl⟩)⟩
 | A,0,nm,k,h,h0,h1,o=>by cases A<;>simp only [hF] at h<;>lia
theorem NM (u:U):0<=up u/\up u<=1:=by cases u<;>decide
theorem jY {f g:Str->Int->Str}:∀ (A:F) (k:Int),(∀ t∈tms A,∀ j:Int,0<=j->j<=k+hF A->f t j = g t j)->0<=k->gG f A k = gG g A k
 | .yes,_,_,_ | .no,_,_,_=>rfl
 | .word w ts,k,h,h0=>by
   have h:∀ t∈ts,∀ j:Int,0<=j->j<=k+1->f t j = g t j:=h;simp only [gG]
   rw [mH fun t hF=>h t hF k h0 (by lia)]
 | .un u a,k,h,h0=>by
   have:=NM u
   simp only [gG,jY a (k+up u) (fun t hF' j j0 j1=>h t hF' j j0 (by simp only [hF];lia)) (by lia)]
 | .bi b x y,k,h,h0=>by
   simp only [gG,jY x k (fun t hF' j j0 j1=>h t (cJ _ hF') j j0 (by simp only [hF];lia)) h0,jY y k (fun t hF' j j0 j1=>h t (aV _ hF') j j0 (by simp only [hF];lia)) h0]
theorem Oh {new t:Str} (h:Pd t) {k:Int} (k0:0<=k) (k1:k < 1000):qf new t k = pf new t k:=by
 unfold qf pf;rcases h with h | ⟨j,j0,j1,rfl⟩
 . have e1:(t == pl k) = false:=OA h k0;have e2:isN t = true:=uT h;simp [e1,e2]
 . have e1:=qP j0;have e2:=uA j0 (show j < 1000 by lia);by_cases e:j = k
   . subst e;simp [e1,e2]
   . have e3:(pl j == pl k) = false:=by
      cases z:(pl j == pl k) with
      | false=>rfl
      | true =>
        have z:pl j = pl k:=eq_of_beq z;have:=uA k0 k1;rw [<- z,e2] at this;exact absurd (aY this) e
     simp [e1,e2,e3,e]
theorem wA {A:F} {new:Str} (h:∀ t∈tms A,Pd t) (hd:hF A < 900):gG (qf new) A 0 = gG (pf new) A 0 :=
 jY A 0 (fun t hF j j0 j1=>Oh (h t hF) j0 (by lia)) (by decide)
theorem wx (n:Nat) (L:Bool) (nm:Str):∀ (A:F),hF A+6<=n->hF A < 900->okF A->(∀ t∈tms A,Pd t)->PP.run Gs gls (n+1) 26 [.str (sd L),enc A,.str nm] = some (brD (brs L nm A))
 | .yes,h,_,_,_=>by obtain ⟨m,rfl⟩:∃ m,n = m+4:=⟨n - 4,by lia⟩;cases L<;>kernel_rfl
 | .no,h,_,_,_=>by obtain ⟨m,rfl⟩:∃ m,n = m+4:=⟨n - 4,by lia⟩;cases L<;>kernel_rfl
 | .word w ts,h,_,_,_=>by obtain ⟨m,rfl⟩:∃ m,n = m+4:=⟨n - 4,by lia⟩;cases L<;>kernel_rfl
 | .un .neg a,h,_,_,_=>by obtain ⟨m,rfl⟩:∃ m,n = m+4:=⟨n - 4,by lia⟩;cases L<;>kernel_rfl
 | .bi b x y,h,_,_,_=>by obtain ⟨m,rfl⟩:∃ m,n = m+4:=⟨n - 4,by lia⟩;cases L<;>cases b<;>kernel_rfl
 | .un .all a,h,h1,o,hp=>by
   simp only [hF] at h h1;have r:=mh a n nm 0 (by lia) (by decide) (by lia) o;rw [wA (A:=a) hp (by lia)] at r;apply bu;refine bq fD rfl rfl rfl ?_;simp only [fD,init,SI,Nat.reduceAdd,Nat.reduceSub];refine dU 2 [.val (.str (sd L)),.val (enc (.un .all a)),.val (.str nm),.val (.str (sd (!L))),.no] (by cases L<;>kernel_rfl) (dz.mpr (gW ⟨true,_,by kernel_rfl,rfl,rfl⟩ ?_));simp only [enc,↓bc r,ay,aB,↓WS,↓WC,WI,↓reduceIte]
   exact ⟨by decide,by decide,by decide,rfl⟩
 | .un .ex a,h,h1,o,hp=>by
   simp only [hF] at h h1;have r:=mh a n nm 0 (by lia) (by decide) (by lia) o;rw [wA (A:=a) hp (by lia)] at r;apply bu;refine bq fD rfl rfl rfl ?_;simp only [fD,init,SI,Nat.reduceAdd,Nat.reduceSub];refine dU 2 [.val (.str (sd L)),.val (enc (.un .ex a)),.val (.str nm),.val (.str (sd (!L))),.no] (by cases L<;>kernel_rfl) (dz.mpr (gW ⟨true,_,by kernel_rfl,rfl,rfl⟩ ?_));simp only [enc,↓bc r,ay,aB,↓WS,↓WC,WI,↓reduceIte];exact ⟨by decide,by decide,by decide,rfl⟩
noncomputable def wrd (p:Str × List Str):D:=.tup [.str "word",.str p.1,.tup (p.2.map .str)]
noncomputable def wds:F->List (Str × List Str)
 | .word w ts=>[(w,ts)]
 | .un _ a=>wds a
 | .bi _ x y=>wds x++wds y
 | _=>[]
theorem Hz (A:F):(wds A).flatMap (·.2) = tms A:=by
 induction A with
 | un u a ih=>exact ih
 | bi b x y i1 i2=>simp [wds,tms,i1,i2]
 | _=>simp [wds,tms]
theorem tZ (A:F):(wds A).length<=sz A:=by
 induction A with
 | un u a ih=>simp only [wds,sz];lia
 | bi b x y i1 i2=>simp only [wds,sz,ar];lia
 | _=>simp [wds,sz]
theorem IB:∀ (A:F) (n:Nat),hF A+1<=n->sz A<=61->PP.run Gs gls n 2 [enc A] = some (.lst ((wds A).map wrd))
 | .yes,n+2,h,_=>by kernel_rfl
 | .no,n+2,h,_=>by kernel_rfl
 | .word w ts,n+2,h,_=>by kernel_rfl
 | .un u a,n+2,h,hs=>by
   simp only [hF] at h;simp only [sz] at hs;have ih:=IB a (n+1) (by lia) (by lia);have hl:=tZ a;have ss:=s64;apply bu;have wi:PP.run Gs gls (n+1) 0 [enc (.un u a)] = some (.tup [enc a]):=by cases u<;>kernel_rfl
   refine bq dY rfl rfl rfl ?_;simp only [dY,init,SI,Nat.reduceAdd,Nat.reduceSub];refine dU 2 [.val (enc (.un u a)),.own [],.no] (by cases u<;>kernel_rfl) ?_;simp only [fU,↓bc wi,↓fx,↓gA,↓bc ih,aj,aB,cC,↓WS,↓WC,WI,↓reduceIte]
   exact ⟨by lia,rfl⟩
 | .bi b x y,n+2,h,hs=>by
   simp only [hF] at h;simp only [sz] at hs;have ih1:=IB x (n+1) (by lia) (by lia);have ih2:=IB y (n+1) (by lia) (by lia);have hl1:=tZ x;have hl2:=tZ y;have ss:=s64;apply bu;have wi:PP.run Gs gls (n+1) 0 [enc (.bi b x y)] = some (.tup [enc x,enc y]):=by cases b<;>kernel_rfl
   refine bq dY rfl rfl rfl ?_;simp only [dY,init,SI,Nat.reduceAdd,Nat.reduceSub];refine dU 2 [.val (enc (.bi b x y)),.own [],.no] (by cases b<;>kernel_rfl) ?_;simp only [fU,↓bc wi,↓fx,↓gA,↓bc ih1,↓bc ih2,aj,aB,cC,↓WS,↓WC,WI,↓reduceIte]
   exact ⟨by lia,by lia,by simp only [wds,bE]⟩
 | A,0,h,_=>by lia
 | A,1,h,_=>by cases A<;>simp only [hF] at h<;>lia
noncomputable def iY (A:F):List Str:=(tms A).filter isN
theorem Cr (A:F):((wds A).flatMap fun p=>(p.2.filter isN).map D.str) = (iY A).map D.str:=by
 unfold iY;rw [<- Hz]
 induction wds A with
 | nil=>rfl
 | cons p l ih=>simp [pF,ih,Dc]
noncomputable def okN (nms:List Str) (A:F):Prop:=sz A<=61/\hF A<=10/\(∀ t∈iY A,t∈nms)/\(tms A).length<=30
theorem Pz {nms:List Str} (hm:nms.length<=10) (n:Nat) (A:F) (hA:okN nms A) (h:hF A+1<=n):PP.run Gs gls (n+1) 3 [enc A] = some (.lst ((sdT (iY A)).map .str)):=by
 obtain ⟨hs,h2,hd,h6⟩:=hA;have hl:(iY A).length<=30:=aX (fi _ _) h6;have e:=IB A n h hs;apply bu;refine bq kf rfl rfl rfl ?_;simp only [kf,init,SI,Nat.reduceAdd,Nat.reduceSub];obtain ⟨n',rfl⟩:∃ n',n = n'+1:=⟨n - 1,by lia⟩;simp only [↓zq,↓bc e,↓WS,↓WC,WI,↓reduceIte];refine qy wrd (fun p=>(p.2.filter isN).map D.str) _ ?_ ?_
 . intro p _;unfold wrd;simp only [SI,↓WS,↓WC,WI,↓reduceIte];refine pX D.str isN D.str (fun δ=>∃ s:Sl,δ = [.val (enc A),.val (.tup [.str "word",.str p.1,.tup (p.2.map .str)]),s]) _ _ ?_ ⟨_,rfl⟩ ?_
   . rintro t _ δ ⟨s,rfl⟩;simp only [↓bc (JR _ t),Bool.not_not,↓WS,↓WC,WI,↓reduceIte];refine ⟨trivial,?_⟩;split
     . exact ⟨trivial,_,rfl⟩
     . exact ⟨_,rfl⟩
   . rintro δ ⟨s,rfl⟩;exact ⟨rfl,rfl⟩
 . rw [Cr];have:=oG hd;refine ⟨_,strs_map _,⟨by lia,by lia⟩,?_⟩;rw [EE]
noncomputable def uJ (r:List It):List Str:=r.flatMap fun p=>sdT (iY p.2)
theorem iR {r:List It} {x:Str}:x∈uJ r↔∃ p∈r,x∈iY p.2:=by
 unfold uJ;rw [List.mem_flatMap];exact ⟨fun ⟨p,hp,h⟩=>⟨p,hp,uq.mp h⟩,fun ⟨p,hp,h⟩=>⟨p,hp,uq.mpr h⟩⟩
theorem PB {nms:List Str} (hm:nms.length<=10) (n:Nat) (hn10:13<=n) (r:List It) (hr:r.length<=63) (hA:∀ p∈r,okN nms p.2):PP.run Gs gls (n+1) 9 [.tup (r.map itD)] = some (.lst ((sdT (uJ r)).map .str)):=by
 apply bu
 have hd:∀ x∈uJ r,x∈nms:=fun x hx=>by
  obtain ⟨p,hp,hx⟩:=iR.mp hx;exact (hA p hp).2.2.1 x hx
 have hl:(uJ r).length<=10 * r.length:=by
  have:∀ l:List It,(∀ p∈l,(sdT (iY p.2)).length<=10)->(l.flatMap fun p=>sdT (iY p.2)).length<=10 * l.length:=fun l=>by
   induction l with
   | nil=>intro _;simp
   | cons p l ih =>
     intro h;have h1:=h p ao;have h2:=ih fun q hq=>h q (aq _ hq);simp only [pF,ar,ay]
     lia
  refine this r fun p hp=>?_;rw [Iy];have:=oG (hA p hp).2.2.1
  lia
 refine bq kg rfl rfl rfl ?_;simp only [kg,init,SI,Nat.reduceAdd,Nat.reduceSub];obtain ⟨n',rfl⟩:∃ n',n = n'+1:=⟨n - 1,by lia⟩;simp only [↓zq,↓WS,↓WC,WI,↓reduceIte];refine qy itD (fun p=>(sdT (iY p.2)).map D.str) _ ?_ ?_
 . intro p hp;unfold itD;have e:=Pz hm n' p.2 (hA p hp) (by have:=(hA p hp).2.1;lia);simp only [SI,↓bc e,↓WS,↓WC,WI,↓reduceIte];refine pX D.str (fun _=>true) D.str (fun δ=>∃ s:Sl,δ = [.val (.tup (r.map fun p=>.tup [.str (sd p.1),enc p.2])),.val (.str (sd p.1)),.val (enc p.2),s]) _ _ ?_ ⟨_,rfl⟩ ?_
   . rintro t _ δ ⟨s,rfl⟩;simp only [↓WS,↓WC,WI,↓reduceIte];exact ⟨trivial,trivial,_,rfl⟩
   . rintro δ ⟨s,rfl⟩;refine ⟨?_,rfl⟩;rw [eA.mpr fun _ _=>rfl]
 . have em:(r.flatMap fun p=>(sdT (iY p.2)).map D.str) = (uJ r).map D.str:=by
    unfold uJ;rw [List.map_flatMap]
   rw [em];have:=oG hd;refine ⟨_,strs_map _,⟨by lia,by lia⟩,?_⟩;rw [EE]
noncomputable def dig:Str:="0123456789"
theorem Mu {t:Str} (h:nm t):uH dig t = false:=by
 cases e:uH dig t with
 | false=>rfl
 | true =>
   obtain ⟨i,h1,h2⟩:=(PySem.StrLaws.found_iff dig t).mp e;obtain ⟨c,r,ec,h3,h4⟩:=h;unfold vG at h2;have h2':=eq_of_beq h2;have h5:(dig.cps.extract i (i+t.length)).toList = c::r:=by rw [h2',ec]
   have hm:c∈dig.cps.toList:=by
    have:c∈(dig.cps.extract i (i+t.length)).toList:=by rw [h5];exact ao
    rw [Array.toList_extract] at this;exact lZ (AW (by simpa [List.extract] using this))
   have hd:∀ c∈dig.cps.toList,c < 97:=by decide +kernel
   have:=hd c hm
   lia
theorem Ms {j:Int} (h0:0<=j) (h1:j < 10):uH dig (pl j) = true:=by
 obtain ⟨m,rfl⟩:=yd h0;have:∀ j:Fin 10,decide ((pl ((j.val:Nat):Int)).length<=dig.length - j.val) = true/\vG dig (pl ((j.val:Nat):Int)) j.val = true:=by decide +kernel
 obtain ⟨a,b⟩:=this ⟨m,by lia⟩;unfold uH;refine (PySem.StrLaws.found_iff dig _).mpr ⟨m,?_,b⟩;have a:=of_decide_eq_true a;have hd:dig.length = 10:=by decide +kernel
 rw [hd] at a ⊢;have hm:m < 10:=by lia
 dsimp only at a
 lia
theorem Oz {t:Str} (h:Pd t):(!uH dig t) = isN t:=by
 rcases h with h | ⟨j,j0,j1,rfl⟩
 . rw [Mu h,uT h];rfl
 . rw [Ms j0 j1,qP j0];rfl
theorem vM {a b:Str} {Q:Bool->Prop}:jR .notin (.str a) (.str b) Q↔Q (!uH b a):=by
 unfold jR;exact ⟨fun ⟨_,e,q⟩=>by cases e;exact q,fun q=>⟨_,rfl,q⟩⟩
theorem mU:∀ (A:F) (n:Nat),hF A<=n->(∀ t∈tms A,Pd t)->(tms A).length<=30->PP.run Gs gls n 25 [enc A] = some (.lst ((iY A).map .str))
 | .yes,n+1,h,_,_=>by kernel_rfl
 | .no,n+1,h,_,_=>by kernel_rfl
 | .word w ts,n+1,h,hp,hl=>by
   have hl:ts.length<=30:=hl;apply bu;refine bq dH rfl rfl rfl ?_;simp only [dH,init,SI,Nat.reduceAdd,Nat.reduceSub];simp only [enc,Kd,↓WS,↓WC,WI,↓reduceIte];refine iJ D.str isN D.str ts ?_ ?_
   . intro t ht;have:=Oz (hp t ht);unfold dig at this;simp only [SI,↓vM,↓WS,↓WC,WI,↓reduceIte];refine ⟨this,?_⟩;split
     . exact ⟨trivial,rfl⟩
     . rfl
   . refine ⟨?_,rfl⟩;rw [aj]
     exact small (aX (fi _ _) (by lia))
 | .un u a,n+1,h,hp,hl=>by
   have ih:=mU a n (by simp only [hF] at h;lia) hp hl;have h30:(iY a).length<=30:=aX (fi _ _) hl;have ss:=s64;apply bu;refine bq dH rfl rfl rfl ?_;simp only [dH,init,SI,Nat.reduceAdd,Nat.reduceSub];refine dU 2 [.val (enc (.un u a)),.val (.lst []),.no] (by cases u<;>kernel_rfl) ?_;simp only [fU,enc,↓ua,↓fx,↓gA,↓bc ih,aj,aB,cC,↓WS,↓WC,WI,↓reduceIte]
   exact ⟨by lia,rfl⟩
 | .bi b x y,n+1,h,hp,hl=>by
   have hl:(tms x++tms y).length<=30:=hl;rw [ar] at hl;have ih1:=mU x n (by simp only [hF] at h;lia) (fun t z=>hp t (cJ _ z)) (by lia);have ih2:=mU y n (by simp only [hF] at h;lia) (fun t z=>hp t (aV _ z)) (by lia);have h1:(iY x).length<=(tms x).length:=fi _ _;have h2:(iY y).length<=(tms y).length:=fi _ _;have ss:=s64;apply bu;refine bq dH rfl rfl rfl ?_;simp only [dH,init,SI,Nat.reduceAdd,Nat.reduceSub];refine dU 2 [.val (enc (.bi b x y)),.val (.lst []),.no] (by cases b<;>kernel_rfl) ?_;simp only [fU,enc,↓ua,↓fx,↓gA,↓bc ih1,↓bc ih2,aj,aB,cC,↓WS,↓WC,WI,↓reduceIte]
   exact ⟨by lia,by lia,by simp only [iY,tms,Dc,bE]⟩
 | A,0,h,_,_=>by cases A<;>simp only [hF] at h<;>lia
noncomputable def bnd:F->Bool
 | .un .neg _=>false
 | .un _ _=>true
 | _=>false
noncomputable def own (L:Bool):F->Bool
 | .un .all _=>!L
 | .un .ex _=>L
 | _=>false
theorem NX (n:Nat) (L:Bool) (A:F):PP.run Gs gls (n+1) 13 [.str (sd L),enc A] = some (.bl (own L A)):=by
 cases A with
 | un u a=>cases u<;>cases L<;>kernel_rfl
 | bi b x y=>cases b<;>cases L<;>kernel_rfl
 | _=>cases L<;>kernel_rfl
theorem Qg (A:F):(bds.any fun y=>eqD y (.str (hd A))) = bnd A:=by
 cases A with
 | un u a=>cases u<;>kernel_rfl
 | bi b x y=>cases b<;>kernel_rfl
 | _=>kernel_rfl
theorem DM {a b:Bool} {Q:Bool->Prop}:jR .ne (.bl a) (.bl b) Q↔Q (!(a == b)):=yr
theorem hW {a b:Str} {Q:Bool->Prop}:jR .ne (.str a) (.str b) Q↔Q (!(a == b)):=yr
noncomputable def inN (row:List It) (nm:Str):Bool:=decide (nm∈uJ row)
noncomputable def stB (row:List It) (L:Bool) (A:F) (nm:Str):Bool:=has row (L,A) && (bnd A == !(nm == "")) && !(own L A && inN row nm)
noncomputable def oF (L:Bool) (A:F) (nm:Str) (ks:List D):D:=.tup [.str "rule",.str (sd L),enc A,.str nm,.tup ks]
theorem vU (xs:List Str) (nm:Str):((xs.map D.str).any fun y=>eqD y (.str nm)) = decide (nm∈xs):=by
 induction xs with
 | nil=>rfl
 | cons x xs ih =>
   rw [aP,jN,ih];have e:eqD (.str x) (.str nm) = decide (x = nm):=by unfold eqD;by_cases h:x = nm<;>simp [h]
   rw [e];by_cases h:x = nm
   . simp [h]
   . simp [h,Ne.symm h,aD,show ¬ nm = x from fun z=>h z.symm]
theorem EJ {nms:List Str} (hm:nms.length<=10) (n:Nat) (hn:14<=n) (row:List It) (L:Bool) (A:F) (nm:Str) (ks:List D) (hl:low row) (hr:row.length<=63) (hA:∀ p∈row,okN nms p.2) (hs:sz A<=61):PP.run Gs gls (n+1) 17 [.tup (row.map itD),oF L A nm ks] = some (.bl (stB row L A nm)):=by
 obtain ⟨m,rfl⟩:∃ m,n = m+1:=⟨n - 1,by lia⟩;have w1:=NX m L A;have w2:=PB hm m (by lia) row hr hA;apply bu;refine bq jg rfl rfl rfl ?_;simp only [jg,init,SI,Nat.reduceAdd,Nat.reduceSub];refine dU 1 [.val (.tup (row.map itD)),.val (oF L A nm ks),.val (.str (sd L)),.val (enc A),.val (.str nm)] (by kernel_rfl) ?_;simp only [fU,↓bc w1,↓bc w2,↓NK,ay,aB,↓WS,↓WC,WI,↓reduceIte]
 have hin:xC .notin (itD (L,A)) (.tup (row.map itD)) = some (!has row (L,A)):=by
  show (inD (itD (L,A)) (.tup (row.map itD))).map (!·) = _;unfold inD;dsimp only;rw [if_pos (Ak hl (q:=(L,A)) hs)];rfl
 refine ⟨by decide,_,hin,?_⟩
 cases hh:has row (L,A) with
 | false=>exact ka (by unfold stB;rw [hh];rfl)
 | true =>
   refine kU ?_;rw [iT A];refine jx.mpr ⟨⟨by rw [lK];decide,by decide +kernel⟩,hW.mpr (DM.mpr ?_)⟩;rw [Qg];unfold stB;rw [hh,iz]
   cases hb:(bnd A == !(nm == "")) with
   | false=>exact ka rfl
   | true =>
     refine kU ?_
     cases ho:own L A with
     | false=>exact kU rfl
     | true =>
       refine ka ⟨_,?_,rfl⟩;show inD (.str nm) (.lst _) = _;unfold inD;dsimp only;rw [if_pos ⟨by rw [lK];decide,by rw [nA];decide⟩,vU];unfold inN;simp only [uq,iz]
theorem mY (f:Str->Int->Str):∀ (A:F) (k:Int),sz (gG f A k) = sz A
 | .yes,_ | .no,_ | .word _ _,_=>rfl
 | .un u a,k=>by simp only [gG,sz,mY f a]
 | .bi b x y,k=>by simp only [gG,sz,mY f x,mY f y]
noncomputable def sbs:F->List F
 | .un _ a=>[a]
 | .bi _ x y=>[x,y]
 | _=>[]
theorem zG {A a:F} (h:a∈sbs A):hF a<=hF A/\sz a<=sz A/\(tms a).length<=(tms A).length/\∀ t∈tms a,t∈tms A:=by
 cases A with
 | un u b =>
   obtain rfl:=bU.mp h
   exact ⟨jL _,jL _,aA _,fun _ z=>z⟩
 | bi c x y =>
   simp only [sbs,aD,cz,or_false] at h;simp only [hF,sz,tms,ar,br];rcases h with rfl | rfl
   . exact ⟨by lia,by lia,by lia,fun _ z=>.inl z⟩
   . exact ⟨by lia,by lia,by lia,fun _ z=>.inr z⟩
 | _=>cases h
theorem AI (L:Bool) (nm:Str) (A:F):∀ b∈brs L nm A,0 < b.length/\b.length<=2/\∀ p∈b,∃ a∈sbs A,p.2 = a\/p.2 = gG (pf nm) a 0:=by
 cases A with
 | un u a=>cases u<;>simp [brs,sbs]
 | bi c x y=>cases c<;>cases L<;>simp [brs,sbs]
 | _=>simp [brs]
theorem oK {L:Bool} {nm:Str} {A:F} (hs:sz A<=61) (b:List It) (hb:b∈brs L nm A):b.length<=2/\low b:=by
 obtain ⟨_,h2,h3⟩:=AI L nm A b hb;refine ⟨h2,fun p hp=>?_⟩;obtain ⟨a,ha,e⟩:=h3 p hp;have:=(zG ha).2.1;rcases e with e | e
 . rw [e];lia
 . rw [e,mY];lia
theorem vp (L:Bool) (nm:Str) (A:F):(brs L nm A).length<=2:=by
 cases A with
 | un u a=>cases u<;>simp [brs]
 | bi c x y=>cases c<;>cases L<;>simp [brs]
 | _=>simp [brs]
section
variable {L:Bool} {nm:Str} {A:F} {ks:List D} (hs:sz A<=61) (hF9:hF A<=10) (o:okF A) (hp:∀ t∈tms A,Pd t)
include hs hF9 o hp
theorem IF (n:Nat) (hn:20<=n):PP.run Gs gls (n+1) 15 [oF L A nm ks] = some (brD (brs L nm A)):=by
 obtain ⟨m,rfl⟩:∃ m,n = m+1:=⟨n - 1,by lia⟩;have w:=ID m L nm A (by lia) (by lia) o hp;apply bu;refine bq gY rfl rfl rfl ?_;simp only [gY,init,SI,Nat.reduceAdd,Nat.reduceSub];unfold oF;refine dz.mpr (gW ?_ ?_)
 . simp only [↓WS,↓WC,WI,↓reduceIte];exact ⟨by decide +kernel,trivial⟩
 . simp only [↓WS,↓WC,WI,↓reduceIte];exact ⟨.str nm,by kernel_rfl,(bc w).mpr rfl⟩
theorem IG (n:Nat) (hn:22<=n) (row:List It) (hl:low row) (hr:row.length<=60):PP.run Gs gls (n+1) 16 [.tup (row.map itD),oF L A nm ks] = some (.lst ((brs L nm A).map fun b=>.tup ((mo (row++b)).map itD))):=by
 obtain ⟨m,rfl⟩:∃ m,n = m+2:=⟨n - 2,by lia⟩;have w:=IF (ks:=ks) (nm:=nm) (L:=L) hs hF9 o hp (m+1) (by lia);have bl:=vp L nm A;have ss:=s64;apply bu;refine bq iE rfl rfl rfl ?_;simp only [iE,init,SI,Nat.reduceAdd,Nat.reduceSub];simp only [↓bc w,brD,↓WS,↓WC,WI,↓reduceIte];refine iJ (fun b:List It=>D.lst (b.map itD)) (fun _=>true) (fun b=>.tup ((mo (row++b)).map itD)) (brs L nm A) (fun b hb=>?_) ⟨?_,?_⟩
 . obtain ⟨b1,b2⟩:=oK hs b hb;have w2:=Ly m row b _ (.inl rfl) (hl.app b2) (by lia);simp only [SI,↓bc w2,↓WS,↓WC,WI,↓reduceIte];exact ⟨trivial,trivial,rfl⟩
 . rw [aj,eA.mpr fun _ _=>rfl];lia
 . rw [eA.mpr fun _ _=>rfl]
end
theorem Ay {as bs:List D} (h:min (bZ as) (bZ bs)<=149) (h2:max (bZ as) (bZ bs) < 99999) {Q:Bool->Prop} (k:Q (eqD (.tup as) (.tup bs))):jR .eq (.tup as) (.tup bs) Q:=by
 refine ⟨_,?_,k⟩;have e1:dep (.tup as) = bZ as+1:=by unfold dep;rfl
 have e2:dep (.tup bs) = bZ bs+1:=by unfold dep;rfl
 have hd:iU (.tup as) (.tup bs) = true:=by
  unfold iU;rw [show kin (.tup as) (.tup bs) = true from rfl,e1,e2,iz,aa,decide_eq_true_eq,decide_eq_true_eq]
  lia
 show (if iU (.tup as) (.tup bs) = true then some (eqD (.tup as) (.tup bs)) else _) = _;rw [if_pos hd]
noncomputable def CL:D:=.tup [.str "close"]
theorem DJ {c:Nat->List D->Option D} {f:Nat->Bool} {δ:PP.Loc} {Q:D->PP.Loc->Prop}:wE ⟨c,gls,f⟩ (.glob 4) δ Q↔Q (.tup [.str "close"]) δ:=zr.trans ⟨fun ⟨d,e,q⟩=>by cases e;exact q,fun q=>⟨_,rfl,q⟩⟩
theorem PZ {Q:Bool->Prop} (k:Q true):jR .eq CL (.tup [.str "close"]) Q:=Ay (by decide +kernel) (by decide +kernel) (by rw [show eqD (D.tup [.str "close"]) (.tup [.str "close"]) = true by decide +kernel];exact k)
theorem AA:∀ m:Nat,bZ (aC m CL)<=1
 | 0=>by show bZ ([]:List D)<=1;unfold bZ;lia
 | m+1=>by
   rw [mG];unfold bZ;have:=AA m;have e:dep CL = 1:=by decide +kernel
   rw [e];exact Nat.max_le.mpr ⟨aA _,this⟩
theorem JV {L:Bool} {A:F} {nm:Str} {m:Nat} (hs:sz A<=61) {Q:Bool->Prop} (k:Q false):jR .eq (oF L A nm (aC m CL)) (.tup [.str "close"]) Q:=by
 have d1:=Az A;have d2:=AA m;unfold oF;refine Ay ?_ ?_ ?_
 . exact aX (iw _ _) (by decide +kernel)
 . simp only [bZ,lK];have e:dep (D.tup (aC m CL)) = bZ (aC m CL)+1:=by unfold dep;rfl
   rw [e];refine lC.mpr ⟨?_,by decide⟩;refine lC.mpr ⟨by decide,lC.mpr ⟨by decide,lC.mpr ⟨by lia,lC.mpr ⟨by decide,lC.mpr ⟨by lia,by decide⟩⟩⟩⟩⟩
 . rw [show eqD (D.tup [.str "rule",.str (sd L),enc A,.str nm,.tup (aC m CL)]) (.tup [.str "close"]) = false by kernel_rfl];exact k
theorem zM (n:Nat) (row:List It) (h:low row) (hl:row.length<=1000):PP.run Gs gls (n+2) 18 [.tup (row.map itD),CL] = some (.bl (cl row)):=by
 have w:=EL n row h hl;apply bu;refine bq oH rfl rfl rfl ?_;simp only [oH,init,SI,Nat.reduceAdd,Nat.reduceSub];refine dz.mpr (gW ?_ ?_)
 . simp only [↓DJ,↓WS,↓WC,WI,↓reduceIte];exact PZ ⟨rfl,trivial⟩
 . simp only [↓bc w,↓WS,↓WC,WI,↓reduceIte]
theorem LB (n:Nat) (L:Bool) (A:F) (nm:Str) (m:Nat) (hs:sz A<=61):PP.run Gs gls (n+1) 14 [oF L A nm (aC m CL)] = some (.tup (aC m CL)):=by
 apply bu;refine bq lN rfl rfl rfl ?_;simp only [lN,init,SI,Nat.reduceAdd,Nat.reduceSub];simp only [↓DJ,↓WS,↓WC,WI,↓reduceIte];refine JV hs ?_;simp only [↓WS,↓WC,WI,↓reduceIte];exact ⟨.tup (aC m CL),by kernel_rfl,rfl⟩
noncomputable def fB (row:List It) (L:Bool) (A:F) (nm:Str) (m:Nat):Bool:=stB row L A nm && ((!(brs L nm A).isEmpty) && ((brs L nm A).length == m) && (brs L nm A).all fun b=>cl (mo (row++b)))
theorem IE {nms:List Str} (hm:nms.length<=10) (n:Nat) (hn:30<=n) (row:List It) (L:Bool) (A:F) (nm:Str) (m:Nat) (hl:low row) (hr:row.length<=60) (hA:∀ p∈row,okN nms p.2) (hs:sz A<=61) (hF9:hF A<=10) (o:okF A) (hp:∀ t∈tms A,Pd t):PP.run Gs gls (n+1) 18 [.tup (row.map itD),oF L A nm (aC m CL)] = some (.bl (fB row L A nm m)):=by
 obtain ⟨n,rfl⟩:∃ k,n = k+2:=⟨n - 2,by lia⟩;have w1:=EJ hm (n+1) (by lia) row L A nm (aC m CL) hl (by lia) hA hs;have w2:=IG (ks:=aC m CL) (nm:=nm) (L:=L) hs hF9 o hp (n+1) (by lia) row hl hr;have w3:=LB (n+1) L A nm m hs
 have wf:∀ b∈brs L nm A,PP.run Gs gls (n+2) 18 [.tup ((mo (row++b)).map itD),CL] = some (.bl (cl (mo (row++b)))):=fun b hb=>by
  obtain ⟨b1,b2⟩:=oK hs b hb;have ml:=Mz (row++b);rw [ar] at ml;exact zM n _ (FE (hl.app b2)) (by lia)
 apply bu;refine bq oH rfl rfl rfl ?_;simp only [oH,init,SI,Nat.reduceAdd,Nat.reduceSub];refine dz.mpr (Gk ?_ (mJ.mpr (qC.mpr ?_)))
 . simp only [↓DJ,↓WS,↓WC,WI,↓reduceIte];exact JV hs ⟨rfl,trivial⟩
 cases hst:stB row L A nm with
 | false =>
   rw [hst] at w1;refine dz.mpr (gW ?_ ?_)
   . simp only [oF,↓WS,↓WC,WI,↓reduceIte];rw [if_pos (by decide +kernel)];exact (bc w1).mpr (by simp only [↓WS,↓WC,WI,↓reduceIte];simp)
   . simp only [↓WS,↓WC,WI,↓reduceIte];unfold fB;rw [hst]
     rfl
 | true =>
   rw [hst] at w1;refine dz.mpr (Gk ?_ (mJ.mpr (qC.mpr ?_)))
   . simp only [oF,↓WS,↓WC,WI,↓reduceIte];rw [if_pos (by decide +kernel)];exact (bc w1).mpr (by simp only [↓WS,↓WC,WI,↓reduceIte];simp)
   unfold fB;rw [hst,iz];simp only [↓bc w2,↓bc w3,aj,cA,↓WS,↓WC,WI,↓reduceIte];have bl:=vp L nm A;generalize brs L nm A = l at wf bl ⊢;have neI:∀ {a b:Int} {Q:Bool->Prop},Q (!(a == b))->jR .ne (.int a) (.int b) Q:=fun k=>⟨_,rfl,k⟩
   cases l with
   | nil=>exact ka rfl
   | cons b1 l =>
     refine kU (neI ?_);by_cases hc:((b1::l).length == m) = true
     . obtain rfl:=eq_of_beq hc;rw [show (!(((b1::l).length:Int) == ((b1::l).length:Int))) = false by simp];refine kU ?_
       cases l with
       | nil =>
         have e1:=wf b1 ao;simp only [↓zp,↓WS,↓WC,WI,↓reduceIte];refine ⟨_,_,_,_,rfl,rfl,rfl,?_⟩;show oe _ _ _ [D.tup [D.tup ((mo (row++b1)).map itD),CL]] _ _;simp only [↓fx,↓gA,↓bc e1,↓WS,↓WC,WI,↓reduceIte]
         cases h1:cl (mo (row++b1))<;>simp [h1]
       | cons b2 l =>
         cases l with
         | nil =>
           have e1:=wf b1 ao;have e2:=wf b2 (aq _ ao);simp only [↓zp,↓WS,↓WC,WI,↓reduceIte];refine ⟨_,_,_,_,rfl,rfl,rfl,?_⟩;show oe _ _ _ [D.tup [D.tup ((mo (row++b1)).map itD),CL],D.tup [D.tup ((mo (row++b2)).map itD),CL]] _ _;simp only [↓fx,↓gA,↓bc e1,↓bc e2,↓WS,↓WC,WI,↓reduceIte]
           cases h1:cl (mo (row++b1))<;>cases h2:cl (mo (row++b2))<;>simp [h1,h2]
         | cons b3 l=>simp at bl
     . have hf:((b1::l).length == m) = false:=by simpa using hc
       have hi:(((b1::l).length:Int) == (m:Int)) = false:=by
        simp only [beq_eq_false_iff_ne,ne_eq] at hf ⊢
        lia
       rw [hi,hf];exact ka (by simp)
theorem sP (n:Nat) (ps:List It) (h:low ps) (hl:ps.length<=1000):PP.run Gs gls (n+1) 27 [.lst (ps.map itD)] = some (.bl (cl ps)):=by
 have ss:=s64;have dl:=nB h;apply bu;refine bq hJ rfl rfl rfl ?_;simp only [hJ,init,SI,Nat.reduceAdd,Nat.reduceSub];simp only [ay,aB,↓WS,↓WC,WI,↓reduceIte]
 have inL:∀ {q:It} {Q:Bool->Prop},sz q.2<=61->Q (has ps q)->jR .isin (itD q) (.lst (ps.map itD)) Q:=fun {q Q} hq k=>by
  refine ⟨_,?_,k⟩;show inD (itD q) (.lst (ps.map itD)) = _;unfold inD;dsimp only;rw [if_pos (Ak h hq)];rfl
 refine ⟨by decide,by decide,inL (q:=(true,.no)) (by simp [sz]) (kA (fun h1=>?_) fun h1=>⟨by decide,by decide,inL (q:=(false,.yes)) (by simp [sz]) (kA (fun h2=>?_) fun h2=>?_)⟩)⟩
 . unfold cl;rw [h1,iX,pI]
 . unfold cl;rw [h2,iX]
 . have e1:has ps (true,.no) = false:=dQ.mpr h1;have e2:has ps (false,.yes) = false:=dQ.mpr h2;have ec:cl ps = ps.any fun p=>p.1 && has ps (false,p.2):=by unfold cl;rw [e1,e2];rfl
   rw [ec];refine mK (g:=itD) (fun rest δ=>∃ s1 s2:Sl,δ = [.val (.lst (ps.map itD)),s1,s2]/\(∀ p∈rest,p∈ps)/\(ps.any fun p=>p.1 && has ps (false,p.2)) = rest.any fun p=>p.1 && has ps (false,p.2)) ?_ ?_ _ _ ⟨_,_,rfl,fun _ z=>z,rfl⟩
   . rintro ⟨b,A⟩ rest δ ⟨s1,s2,rfl,hm,e⟩;show wTg _ (Tg.tp [1,2]) (D.tup [D.str (sd b),enc A]) _;simp only [↓mI,Lu,SI,↓WS,↓WC,WI,↓reduceIte];rw [e,jN]
     cases b with
     | false=>exact ⟨_,_,rfl,fun p z=>hm p (aq _ z),rfl⟩
     | true =>
       refine ⟨by decide,inL (q:=(false,A)) (h (true,A) (hm _ ao)) ?_⟩
       cases hh:has ps (false,A) with
       | true=>exact ka (by simp [hh])
       | false=>exact kU ⟨_,_,rfl,fun p z=>hm p (aq _ z),by simp [hh]⟩
   . rintro δ ⟨s1,s2,rfl,_,e⟩;simp only [↓WS,↓WC,WI,↓reduceIte];rw [e];rfl
noncomputable def oB (row:List It) (L:Bool) (A:F) (nm:Str):Bool:=!(nm == "") && !(own L A && inN row nm)
theorem MO {A:F} (hb:bnd A = true) (L:Bool):(L == (hd A == "all")) = !own L A:=by
 cases A with
 | un u a =>
   cases u with
   | neg=>cases hb
   | all=>cases L<;>kernel_rfl
   | ex=>cases L<;>kernel_rfl
 | _=>cases hb
theorem Gj (p:It) (r:List It) (nm:Str):inN (p::r) nm = (decide (nm∈iY p.2) || inN r nm):=by
 unfold inN;by_cases h1:nm∈iY p.2<;>by_cases h2:nm∈uJ r<;>simp only [h1,h2,decide_true,decide_false,pI,vH,iX]
 all_goals first | (refine decide_eq_true (iR.mpr ?_)) | (refine decide_eq_false fun z=>?_)
 . exact ⟨p,ao,h1⟩
 . exact ⟨p,ao,h1⟩
 . obtain ⟨q,hq,z⟩:=iR.mp h2;exact ⟨q,aq _ hq,z⟩
 . obtain ⟨q,hq,z2⟩:=iR.mp z;rcases aD.mp hq with rfl | hq2
   . exact h1 z2
   . exact h2 (iR.mpr ⟨q,hq2,z2⟩)
theorem Lz (n:Nat) (hn:12<=n) (row:List It) (L:Bool) (A:F) (nm:Str) (hb:bnd A = true) (hA:∀ p∈row,hF p.2<=10/\(∀ t∈tms p.2,Pd t)/\(tms p.2).length<=30):PP.run Gs gls (n+1) 28 [.lst (row.map itD),.str (sd L),enc A,.str nm] = some (.bl (oB row L A nm)):=by
 have he:=MO hb L;apply bu;refine bq km rfl rfl rfl ?_;simp only [km,init,SI,Nat.reduceAdd,Nat.reduceSub];rw [iT A];simp only [Lu,↓hW,↓WS,↓WC,WI,↓reduceIte];refine kA (fun e=>?_) fun e=>⟨_,rfl,?_⟩
 . unfold oB;rw [e];rfl
 have e:(nm == "") = false:=dQ.mpr e;show if (L == (hd A == "all")) = true then _ else _
 rw [he]
 cases ho:own L A with
 | false=>exact ka (by unfold oB;rw [ho,e];rfl)
 | true =>
   refine kU ?_;have eo:oB row L A nm = !inN row nm:=by unfold oB;rw [ho,e];rfl
   rw [eo];refine mK (g:=itD) (fun rest δ=>∃ s:Sl,δ = [.val (.lst (row.map itD)),.val (.str (sd L)),.val (.tup (.str (hd A)::tl A)),.val (.str nm),s]/\(∀ p∈rest,p∈row)/\inN row nm = inN rest nm) ?_ ?_ _ _ ⟨_,rfl,fun _ z=>z,rfl⟩
   . rintro p rest δ ⟨s,rfl,hm,e2⟩;obtain ⟨a1,a2,a3⟩:=hA p (hm p ao);have w:=mU p.2 n (by lia) a2 a3;simp only [itD,↓bc w,↓WS,↓WC,WI,↓reduceIte];refine ⟨decide (nm∈iY p.2),?_,?_⟩
     . show inD (.str nm) (.lst _) = _;unfold inD;dsimp only;rw [if_pos ⟨by rw [lK];decide,by rw [nA];decide⟩,vU]
     . rw [e2,Gj]
       cases hd:decide (nm∈iY p.2) with
       | true=>exact ka (by simp)
       | false=>exact kU ⟨_,rfl,fun q z=>hm q (aq _ z),by rw [Bool.false_or]⟩
   . rintro δ ⟨s,rfl,_,e2⟩;simp only [↓WS,↓WC,WI,↓reduceIte];rw [e2];rfl
noncomputable def dB (row:List It) (L:Bool) (A:F) (nm:Str) (m:Nat):Bool:=has row (L,A) && ((!(brs L nm A).isEmpty) && ((brs L nm A).length == m) && ((if bnd A = true then oB row L A nm else nm == "") && (brs L nm A).all fun b=>cl (row++b)))
theorem Le (row:List It) (L:Bool) (A:F) (nm:Str):stB row L A nm = (has row (L,A) && (if bnd A = true then oB row L A nm else nm == "")):=by
 unfold stB oB
 cases hb:bnd A with
 | true=>cases h:(nm == "")<;>simp
 | false =>
   have ho:own L A = false:=by
    cases A with
    | un u a=>cases u<;>first | rfl | cases hb
    | _=>rfl
   rw [ho];cases h:(nm == "")<;>simp
theorem rN {a b:Bool} (h:a = true↔b = true):a = b:=by cases a<;>cases b<;>simp_all
theorem OP {row l:List It} (h:∀ p,p∈row↔p∈l) (hl:low l) {L:Bool} {A:F} {nm:Str} {m:Nat} (hs:sz A<=61):fB row L A nm m = dB l L A nm m:=by
 have lr:low row:=fun p hp=>hl p ((h p).mp hp);have e1:has row (L,A) = has l (L,A):=rN (by rw [lI lr,lI hl,h])
 have e2:oB row L A nm = oB l L A nm:=by
  have:inN row nm = inN l nm:=by
   unfold inN;refine decide_eq_decide.mpr ?_;rw [iR,iR];exact exists_congr fun p=>and_congr_left' (h p)
  unfold oB;rw [this]
 have e3:∀ b∈brs L nm A,cl (mo (row++b)) = cl (l++b):=fun b hb=>by
  have b2:=(oK hs b hb).2;have:(·∈mo (row++b)) = (·∈l++b):=funext fun p=>propext (by rw [FC,br,br,h]);exact rN (by rw [vh (FE (lr.app b2)),vh (hl.app b2),this])
 unfold fB dB;rw [Le,e1,e2,dO];simp only [aa,bx];constructor
 . rintro ⟨⟨a,b⟩,⟨c,d⟩,e⟩;exact ⟨a,⟨c,d⟩,b,fun x hx=>by rw [<- e3 x hx];exact e x hx⟩
 . rintro ⟨a,⟨c,d⟩,b,e⟩;exact ⟨⟨a,b⟩,⟨c,d⟩,fun x hx=>by rw [e3 x hx];exact e x hx⟩
theorem GB:∀ l:List (List It),(∀ b∈l,low b)->bZ (l.map fun b=>D.lst (b.map itD))<=65
 | [],_=>by show bZ ([]:List D)<=65;unfold bZ;lia
 | b::l,h=>by
   rw [aP];unfold bZ;have e:dep (D.lst (b.map itD)) = bZ (b.map itD)+1:=by unfold dep;rfl
   have:=nB (h b ao);have:=GB l fun c hc=>h c (aq _ hc)
   lia
theorem eq_nil {l:List (List It)} (h:∀ b∈l,low b) {Q:Bool->Prop} (k:Q l.isEmpty):jR .eq (brD l) (.lst []) Q:=by
 refine ⟨_,?_,k⟩;have e2:dep (.lst []) = 1:=by decide +kernel
 have e1:dep (brD l) = bZ (l.map fun b=>D.lst (b.map itD))+1:=by unfold brD dep;rfl
 have:=GB l h;show (if iU (brD l) (.lst []) = true then some (eqD (brD l) (.lst [])) else _) = _;rw [if_pos (by unfold iU;rw [show kin (brD l) (.lst []) = true from rfl,e1,e2,iz,aa,decide_eq_true_eq,decide_eq_true_eq];lia)];cases l<;>(unfold brD;simp only [fQ,aP];unfold eqD gy;rfl)
theorem Ni (A:F):((!(hd A == "all")) && !(hd A == "some")) = !bnd A:=by
 cases A with
 | un u a=>cases u<;>kernel_rfl
 | bi b x y=>cases b<;>kernel_rfl
 | _=>kernel_rfl
theorem xv (n:Nat) (l:List It) (lo:low l) (hl:l.length<=60) (a1 a2 a3 a4 a5:Sl):∀ (bs:List (List It)) (s:Sl),(∀ b∈bs,b.length<=2/\low b)->oe ⟨PP.run Gs gls (n+1),gls,hfs Gs⟩ (.nm 6) (.cons (.ifs (.not (.call 27 (.cons (.bin .add (.var 0) (.var 6)) .nil))) (.cons (.ret (.bl false)) .nil) .nil) .nil) (bs.map fun b=>.lst (b.map itD)) [.val (.lst (l.map itD)),a1,a2,a3,a4,a5,s] (vQ ⟨PP.run Gs gls (n+1),gls,hfs Gs⟩ (.cons (.ret (.bl true)) .nil) (retS fun x=>x = .bl (bs.all fun b=>cl (l++b))))
 | [],s,h=>by
   simp only [fQ,↓gA,↓WS,↓WC,WI,↓reduceIte]
   rfl
 | b::bs,s,h=>by
   obtain ⟨h1,h2⟩:=h b ao;have ih:=xv n l lo hl a1 a2 a3 a4 a5 bs (.val (.lst (b.map itD))) fun c hc=>h c (aq _ hc);have w:=sP n (l++b) (lo.app h2) (by rw [ar];lia);rw [bE] at w;have ss:=s64;simp only [aP,↓fx,gq,aj,↓bc w,SI,↓WS,↓WC,WI,↓reduceIte];refine ⟨by lia,?_⟩
   cases hc:cl (l++b) with
   | false=>exact ka rfl
   | true=>exact kU (by simpa using ih)
theorem NY (n:Nat) (hn:20<=n) (l:List It) (L:Bool) (A:F) (nm:Str) (m:Nat) (lo:low l) (hl:l.length<=60) (hA:∀ p∈l,hF p.2<=10/\(∀ t∈tms p.2,Pd t)/\(tms p.2).length<=30) (hs:sz A<=61) (h9:hF A<=10) (o:okF A) (hp:∀ t∈tms A,Pd t):PP.run Gs gls (n+1) 32 [.lst (l.map itD),.str (sd L),enc A,.str nm,.int m] = some (.bl (dB l L A nm m)):=by
 obtain ⟨n,rfl⟩:∃ k,n = k+1:=⟨n - 1,by lia⟩;have w1:=wx n L nm A (by lia) (by lia) o hp;have bo:=fun b hb=>(oK (L:=L) (nm:=nm) hs b hb).2;have b2:=fun b hb=>(oK (L:=L) (nm:=nm) hs b hb).1;have ss:=s64;apply bu;refine bq kn rfl rfl rfl ?_;simp only [kn,init,SI,Nat.reduceAdd,Nat.reduceSub];simp only [↓bc w1,ay,aB,↓WS,↓WC,WI,↓reduceIte]
 have hin:xC .notin (itD (L,A)) (.lst (l.map itD)) = some (!has l (L,A)):=by
  show (inD (itD (L,A)) (.lst (l.map itD))).map (!·) = _;unfold inD;dsimp only;rw [if_pos (Ak lo (q:=(L,A)) hs)];rfl
 refine ⟨by decide,_,hin,?_⟩;unfold dB
 cases hh:has l (L,A) with
 | false=>exact ka rfl
 | true =>
   refine kU ⟨by decide,eq_nil bo ?_⟩;have lp:=xv n l lo hl (.val (.str (sd L))) (.val (enc A)) (.val (.str nm)) (.val (.int m)) (.val (brD (brs L nm A))) (brs L nm A) .no (oK hs);have bh:=Ni A;have wo:=Lz n (by lia) l L A nm;generalize brs L nm A = bs at lp bo ⊢
   cases he:bs.isEmpty with
   | true=>exact ka rfl
   | false =>
     refine kU ?_;unfold brD;refine sE.mpr ?_;rw [aj];have neI:∀ {a b:Int} {Q:Bool->Prop},Q (!(a == b))->jR .ne (.int a) (.int b) Q:=fun k=>⟨_,rfl,k⟩;refine neI ?_
     cases hc:(bs.length == m) with
     | false =>
       have hi:((m:Int) == (bs.length:Int)) = false:=by
        simp only [beq_eq_false_iff_ne,ne_eq] at hc ⊢
        lia
       rw [hi]
       exact ka rfl
     | true =>
       have hi:((m:Int) == (bs.length:Int)) = true:=by
        rw [eq_of_beq hc];simp
       rw [hi];refine kU ?_;rw [iT A] at lp wo ⊢
       cases hb:bnd A with
       | false =>
         rw [hb,tY,aa] at bh;refine jx.mpr (hW.mpr (kA (fun _=>jx.mpr (hW.mpr (kA (fun _=>?_) fun z=>absurd bh.2 z))) fun z=>absurd bh.1 z));refine hW.mpr ?_
         cases hn:(nm == "") with
         | false=>exact ka rfl
         | true=>exact kU (by simp only [↓WS,↓WC,WI,↓reduceIte];exact lp)
       | true =>
         have wo:=wo hb hA
         have fin:iM Gs gls (n+1) 28 [.lst (l.map itD),.str (sd L),.tup (.str (hd A)::tl A),.str nm] fun d=>wTv d fun b=>if (!b) = true then D.bl false = D.bl (true && ((!false) && true && ((if true = true then oB l L A nm else nm == "") && bs.all fun b=>cl (l++b)))) else wItems (brD bs) fun ds=>oe ⟨PP.run Gs gls (n+1),gls,hfs Gs⟩ (.nm 6) (.cons (.ifs (.not (.call 27 (.cons (.bin .add (.var 0) (.var 6)) .nil))) (.cons (.ret (.bl false)) .nil) .nil) .nil) ds [.val (.lst (l.map itD)),.val (.str (sd L)),.val (.tup (.str (hd A)::tl A)),.val (.str nm),.val (.int m),.val (brD bs),.no] (vQ ⟨PP.run Gs gls (n+1),gls,hfs Gs⟩ (.cons (.ret (.bl true)) .nil) (retS fun x=>x = D.bl (true && ((!false) && true && ((if true = true then oB l L A nm else nm == "") && bs.all fun b=>cl (l++b)))))):=by
          simp only [↓bc wo,brD,↓WS,↓WC,WI,↓reduceIte]
          cases ho:oB l L A nm with
          | false=>exact ka rfl
          | true=>exact kU lp
         refine jx.mpr (hW.mpr (kA (fun z1=>jx.mpr (hW.mpr (kA (fun z2=>?_) fun _=>fin))) fun _=>fin));rw [z1,z2,hb] at bh;cases bh
theorem yF (n:Nat) (ns:List Int) (k:Int) (h0:0<=k) (h1:k<=1000):iM Gs gls (n+1) 19 [.lst (ns.map .int),.int k] fun d=>∃ c:Int,d = .int c:=by
 refine bq jm rfl rfl rfl ?_;simp only [jm,init,SI,Nat.reduceAdd,Nat.reduceSub];simp only [↓WS,↓WC,WI,↓reduceIte];have hl:(ns.map D.int).length = ns.length:=aj _;rw [hl];split
 . rename_i h;obtain ⟨d,hm,e⟩:=nJ (ds:=ns.map D.int) h0 (by rw [hl];exact h);obtain ⟨c,_,rfl⟩:=aU.mp hm;exact ⟨_,e,c,rfl⟩
 . refine ⟨mul_r (by decide) (by decide),?_⟩;split
   . rename_i h;obtain ⟨d,hm,e⟩:=nJ (ds:=ns.map D.int) (j:=k * 7 % (ns.length:Int)) (bF _ (by lia)) (by rw [hl];exact bp _ h);obtain ⟨c,_,rfl⟩:=aU.mp hm;refine ⟨mul_r (by decide) (by decide),h,_,e,?_⟩;simp only [↓WS,↓WC,WI,↓reduceIte];have a1:=bF (c * 48271) (show (2147483647:Int)≠0 by decide);have a2:=bp (c * 48271) (show (0:Int) < 2147483647 by decide);exact ⟨mul_r (by decide) (by decide),by decide,mul_r (by decide) (by decide),mul_r (by lia) (by lia),by decide,_,rfl⟩
   . exact ⟨mul_r (by lia) (by lia),by decide,_,rfl⟩
theorem uw (x:Str) (n:Nat):(yB x n).length = n * x.length:=by
 show ((aC n x.cps.toList).flatten.toArray).size = n * x.cps.size;simp
theorem AM (x y:Str):(x++y).length = x.length+y.length:=by
 show (x.cps++y.cps).size = _;rw [Array.size_append];rfl
theorem yL {a b:Str} (h:nm a):nm (a++b):=by
 obtain ⟨c,r,e,h1,h2⟩:=h;refine ⟨c,r++b.cps.toList,?_,h1,h2⟩;show (a.cps++b.cps).toList = _;rw [Bc,e];rfl
theorem Mv {f a:Str} (hf:nm f) (ha:nm a):∀ k:Nat,nm (yB f k++a)
 | 0=>by
   obtain ⟨c,r,e,h⟩:=ha;refine ⟨c,r,?_,h⟩;show ((aC 0 f.cps.toList).flatten.toArray++a.cps).toList = _
   simp [e]
 | k+1=>by
   refine yL ?_;obtain ⟨c,r,e,h⟩:=hf;refine ⟨c,r++(aC k f.cps.toList).flatten,?_,h⟩;show ((aC (k+1) f.cps.toList).flatten.toArray).toList = _;rw [mG,List.flatten_cons,e];rfl
theorem EI (n:Nat) (c:Int) (f:Str) (hf:f.length = 1) (hm:nm f) (k:Int) (h0:0<=k) (h1:k<=2):iM Gs gls (n+1) 20 [.int c,.str f,.int k] fun d=>∃ w:Str,d = .str w/\nm w:=by
 refine bq ji rfl rfl rfl ?_;simp only [ji,init,SI,Nat.reduceAdd,Nat.reduceSub];have a1:=bF c (show (8:Int)≠0 by decide);have a2:=bp c (show (0:Int) < 8 by decide);have b1:=bF (c / 8) (show 1+c % 8≠0 by lia);have b2:=bp (c / 8) (show 0 < 1+c % 8 by lia);simp only [↓WS,↓WC,WI,↓reduceIte];obtain ⟨x,hx,ex⟩:=nJ (ds:=(("bdghjk":Str).cps.toList)) (j:=k) h0 (by show k < 6;lia);have hx:=(show ∀ u∈("bdghjk":Str).cps.toList,97<=u/\u<=122 by decide +kernel) x hx;have ss:=s64;refine ⟨by decide,by decide,by lia,⟨by lia,by lia,by lia⟩,by decide,x,ex,?_,⟨by lia,by lia,by lia⟩,?_,_,rfl,?_⟩
 . rw [uw,hf];show _+1<=_;lia
 . rw [AM,uw,uw,hf];show _+1+_<=_;lia
 . exact yL (Mv hm ⟨x,[],rfl,hx⟩ _)
theorem OF:∀ k:Nat,k < 26->∃ u,("abcdefghijklmnopqrstuvwxyz0123456789":Str).cps.toList[k]? = some u/\97<=u/\u<=122:=by
 have h:∀ k:Nat,k < 26->(("abcdefghijklmnopqrstuvwxyz0123456789":Str).cps.toList[k]?).any (fun u=>decide (97<=u) && decide (u<=122)) = true:=by decide +kernel
 intro k hk;have:=h k hk
 cases e:("abcdefghijklmnopqrstuvwxyz0123456789":Str).cps.toList[k]? with
 | none=>rw [e] at this;cases this
 | some u =>
   rw [e] at this;simp only [Option.any_some,aa,decide_eq_true_eq] at this;exact ⟨u,rfl,this⟩
theorem yE (n:Nat) (c:Int):iM Gs gls (n+1) 21 [.int c] fun d=>∃ t:Str,d = .str t/\nm t:=by
 refine bq jj rfl rfl rfl ?_;simp only [jj,init,SI,Nat.reduceAdd,Nat.reduceSub];simp only [↓WS,↓WC,WI,↓reduceIte];have e36:("abcdefghijklmnopqrstuvwxyz0123456789":Str).length = 36:=by decide +kernel
 have j0:=bF (c / 8) (show (26:Int)≠0 by decide);have j1:=bp (c / 8) (show (0:Int) < 26 by decide);obtain ⟨u,eu,u1,u2⟩:=OF (c / 8 % 26).toNat (by lia)
 have e:atI ("abcdefghijklmnopqrstuvwxyz0123456789":Str).cps.toList (c / 8 % 26) = some u:=by
  have:=atI_nat eu
  rwa [Int.toNat_of_nonneg j0] at this
 refine ⟨by decide,by decide,by rw [e36];exact small (by decide),u,e,by decide,by decide,⟨by lia,by lia⟩,?_⟩;refine mL (fun xs δ=>∃ (c r:Int) (t:Str) (s:Sl),δ = [.val (.int c),.val (.str "abcdefghijklmnopqrstuvwxyz0123456789"),.val (.str t),.val (.int r),s]/\t.length+xs.length<=8/\nm t) ?_ ?_ _ _ ?_
 . rintro x xs δ ⟨c,r,t,s,rfl,ht,hm⟩;rw [ay] at ht;simp only [↓WS,↓WC,WI,↓reduceIte];obtain ⟨v,_,e⟩:=nJ (ds:=("abcdefghijklmnopqrstuvwxyz0123456789":Str).cps.toList) (j:=r % 36) (bF _ (by decide)) (by rw [str_len,e36];exact bp _ (by decide));have e1:(⟨#[v]⟩:Str).length = 1:=rfl;exact ⟨by decide,by rw [e36];exact small (by decide),v,e,small (by lia),by decide,_,_,_,_,rfl,by rw [AM,e1];lia,yL hm⟩
 . rintro δ ⟨c,r,t,s,rfl,ht,hm⟩;simp only [↓WS,↓WC,WI,↓reduceIte];exact ⟨t,rfl,hm⟩
 . refine ⟨_,_,_,_,rfl,?_,u,[],rfl,u1,u2⟩;rw [mS];have e1:(⟨#[u]⟩:Str).length = 1:=rfl
   lia
theorem LA (n:Nat) (c f:Int) (xs:List Str) (h0:0 < xs.length) (h1:xs.length < 100):iM Gs gls (n+2) 22 [.int c,.int f,.lst (xs.map .str)] fun d=>∃ (w:Str) (ts:List Str),d = enc (.word w ts)/\ts.length<=3/\∀ t∈ts,t∈xs:=by
 refine bq jk rfl rfl rfl ?_;simp only [jk,init,SI,Nat.reduceAdd,Nat.reduceSub];have a1:=bF (c / 5) (show (4:Int)≠0 by decide);have a2:=bp (c / 5) (show (0:Int) < 4 by decide);simp only [ay,aB,↓WS,↓WC,WI,↓reduceIte];refine ⟨by decide,by decide,by decide,⟨by lia,by lia⟩,?_⟩;refine mL (fun zs δ=>∃ (ts:List Str) (s:Sl),δ = [.val (.int c),.val (.int f),.val (.lst (xs.map .str)),.own (ts.map .str),s]/\(ts.length+zs.length<=3/\∀ t∈ts,t∈xs)/\∀ z∈zs,∃ i:Nat,i < 10/\z = .int i) ?_ ?_ _ _ ⟨[],_,rfl,⟨by rw [mS];simp only [aB];lia,fun _ h=>by cases h⟩,fun z hz=>?_⟩
 . rintro z zs δ ⟨ts,s,rfl,⟨hl,ht⟩,hz⟩;obtain ⟨i,hi,rfl⟩:=hz z ao;rw [ay] at hl;have ss:=s64;simp only [aj,↓WS,↓WC,WI,↓reduceIte];have e1:=bF (c / (7+4 * (i:Int))) (show (xs.length:Int)≠0 by lia);have e2:=bp (c / (7+4 * (i:Int))) (show (0:Int) < (xs.length:Int) by lia);obtain ⟨d,hd,et⟩:=nJ (ds:=xs.map D.str) e1 (by rw [aj];exact e2);obtain ⟨t,ht2,rfl⟩:=aU.mp hd;exact ⟨mul_r (by lia) (by lia),⟨by lia,by lia⟩,by lia,_,et,by lia,ts++[t],_,by rw [bE];rfl,⟨by rw [ar,bP];lia,fun q hq=>(br.mp hq).elim (ht q) fun z=>by rw [bU.mp z];exact ht2⟩,fun z q=>hz z (aq _ q)⟩
 . rintro δ ⟨ts,s,rfl,⟨hl,ht⟩,_⟩;simp only [ay,aB,↓WS,↓WC,WI,↓reduceIte];have e1:=bF c (show (3:Int)≠0 by decide);have e2:=bp c (show (0:Int) < 3 by decide);refine ⟨by decide,cE (EI n f "q" (by decide +kernel) ⟨113,[],rfl,by decide,by decide⟩ (c % 3) e1 (by lia)) ?_⟩;rintro _ ⟨w,rfl,_⟩;exact ⟨by decide,w,ts,rfl,by simpa using hl,ht⟩
 . obtain ⟨i,hi,rfl⟩:=uu hz;exact ⟨i,by lia,by simp⟩
noncomputable def tm (xs:List Str) (d:Nat) (t:Str):Prop:=t∈xs\/∃ j:Int,0<=j/\j < d/\t = pl j
noncomputable def St (xs:List Str) (d k:Nat) (A:F):Prop:=hF A<=k+1/\sz A < 2 ^ (k+1)/\(tms A).length<=3 * 2 ^ k/\∀ t∈tms A,tm xs d t
theorem St.up {xs:List Str} {d e k j:Nat} {A:F} (h:St xs d k A) (h1:d<=e) (h2:k<=j):St xs e j A:=by
 obtain ⟨a,b,c,t⟩:=h;have p1:2 ^ (k+1)<=2 ^ (j+1):=CO (by decide) (by lia);have p2:2 ^ k<=2 ^ j:=CO (by decide) h2;refine ⟨by lia,by lia,by lia,fun q hq=>(t q hq).imp id ?_⟩;rintro ⟨j,j0,j1,e⟩;exact ⟨j,j0,by lia,e⟩
theorem St.un {xs:List Str} {d k:Nat} {A:F} (u:U) (h:St xs d k A):St xs d (k+1) (.un u A):=by
 obtain ⟨a,b,c,t⟩:=h;rw [eX] at b;refine ⟨by simp only [hF];lia,by simp only [sz,eX];have:=CN (n:=k) (show 0 < 2 by decide);lia,by rw [eX];show (tms A).length<=_;lia,t⟩
theorem St.bi {xs:List Str} {d k:Nat} {A B:F} (u:P1.B) (h:St xs d k A) (g:St xs d k B):St xs d (k+1) (.bi u A B):=by
 obtain ⟨a,b,c,t⟩:=h;obtain ⟨a',b',c',t'⟩:=g;rw [eX] at b b';refine ⟨by simp only [hF];lia,by simp only [sz,eX];lia,?_,fun q hq=>?_⟩
 . show (tms A++tms B).length<=_;rw [ar,eX];lia
 . exact (br.mp hq).elim (t q) (t' q)
theorem St.lf {xs:List Str} {d k:Nat} {A:F} (h:A = .yes\/A = .no):St xs d k A:=by
 have:=CN (n:=k) (show 0 < 2 by decide);rcases h with rfl | rfl<;>exact ⟨by simp only [hF];lia,by simp only [sz,eX];lia,by simp [tms],fun t ht=>by cases ht⟩
noncomputable def kinds:List Str:=["word","not","and","or","if","all","some","yes","no","word"]
theorem Jq (v:Int):∃ s:Str,atI (kinds.map D.str) (v % 10) = some (.str s)/\(((s == "yes") || (s == "no") || (s == "word") || (s == "not") || (s == "all") || (s == "some")) = true\/∃ b:B,s = b.s):=by
 obtain ⟨x,hx,e⟩:=nJ (ds:=kinds.map D.str) (bF v (show (10:Int)≠0 by decide)) (bp v (show (0:Int) < 10 by decide));obtain ⟨s,hs,rfl⟩:=aU.mp hx;refine ⟨s,e,?_⟩;rcases (show ∀ s∈kinds,((s == "yes") || (s == "no") || (s == "word") || (s == "not") || (s == "all") || (s == "some")) = true\/s = "and"\/s = "or"\/s = "if" by decide +kernel) s hs with h | h | h | h
 . exact .inl h
 . exact .inr ⟨.and,h⟩
 . exact .inr ⟨.or,h⟩
 . exact .inr ⟨.imp,h⟩
theorem HU {P:D->D->Prop} {d:Nat} (hP:∀ x y,P x y->∃ j:Int,0<=j/\j < d/\y = .str (pl j)) {ds ys:List D} (r:Paired P ds ys):∃ ps:List Str,ys = ps.map .str/\ps.length = ds.length/\∀ p∈ps,∃ j:Int,0<=j/\j < d/\p = pl j:=by
 induction r with
 | nil=>exact ⟨[],rfl,rfl,fun _ h=>by cases h⟩
 | cons h t ih =>
   obtain ⟨j,j0,j1,rfl⟩:=hP _ _ h;obtain ⟨cs,rfl,hl,hc⟩:=ih;exact ⟨pl j::cs,rfl,by simp [hl],fun p hp=>(aD.mp hp).elim (fun e=>⟨j,j0,j1,e⟩) (hc p)⟩
theorem NW (n d:Nat) (hd:d < 90) {a b c e f g h i:Sl} {Q:List D->PP.Loc->Prop} (q:∀ ps:List Str,ps.length = d->(∀ p∈ps,∃ j:Int,0<=j/\j < d/\p = pl j)->Q (ps.map .str) [a,b,c,e,f,g,h,i]):lV ⟨PP.run Gs gls n,gls,hfs Gs⟩ 1 (.nm 8) .no (.blt .toStr (.cons (.var 8) .nil)) (uv 0 (d:Int).toNat) [a,b,c,e,f,g,h,i] Q:=by
 refine iN (fun _ y=>∃ j:Int,0<=j/\j < d/\y = .str (pl j)) _ ?_ ?_
 . intro z hz;obtain ⟨j,hj,rfl⟩:=uu hz;have hj:j < d:=by simpa using hj
   simp only [SI,↓WS,↓WC,WI,↓reduceIte];exact ⟨trivial,tq (by lia) (by lia),⟨0+(j:Int),by lia,by lia,rfl⟩,rfl⟩
 . intro ys r;obtain ⟨ps,rfl,hl,hp⟩:=HU (fun _ _ h=>h) r;rw [mS] at hl;exact q ps (by simpa using hl) hp
theorem oX (k n d:Nat) (c f:Int) (xs:List Str) (h0:0 < xs.length) (h1:xs.length+d+k < 90):iM Gs gls (n+k+3) 23 [.int c,.int k,.int d,.lst (xs.map .str),.int f] fun D=>∃ A,D = enc A/\St xs (d+k) k A:=by
 obtain ⟨s,es,ks⟩:=Jq c;unfold kinds at es;have ss:=s64;refine bq fA rfl rfl rfl ?_;simp only [fA,init,SI,Nat.reduceAdd,Nat.reduceSub];simp only [ay,aB,↓WS,↓WC,WI,↓reduceIte];refine ⟨by decide,by decide,_,es,by decide,?_⟩;simp only [↓WS,↓WC,WI,↓reduceIte];refine FY (fun h=>⟨by decide,?_⟩) fun n1 n2=>FY (fun _=>⟨⟨by lia,by lia⟩,NW _ d (by lia) fun ps pl pj=>⟨?_,?_,?_⟩⟩) fun n3 n4=>?_
 . rcases h with h | h<;>rw [eq_of_beq h]
   . exact ⟨.yes,rfl,.lf (.inl rfl)⟩
   . exact ⟨.no,rfl,.lf (.inr rfl)⟩
 . rw [aj];lia
 . rw [aj,aj];lia
 . rw [<- bE];refine cE (LA (n+k) (c / 10) f (xs++ps) (by rw [ar];lia) (by rw [ar];lia)) ?_;rintro _ ⟨w,ts,rfl,tl,tt⟩;have:=CN (n:=k) (show 0 < 2 by decide);refine ⟨_,rfl,by simp only [hF];lia,by simp only [sz,eX];lia,?_,fun t ht=>?_⟩
   . show ts.length<=_;lia
   . refine (br.mp (tt t ht)).imp id fun z=>?_;obtain ⟨j,j0,j1,e⟩:=pj t z;exact ⟨j,j0,by lia,e⟩
 obtain ⟨k,rfl⟩:∃ i,k = i+1:=⟨k - 1,by lia⟩;rw [show ((k+1:Nat):Int) - 1 = (k:Int) by lia,show (d:Int)+1 = ((d+1:Nat):Int) by lia];have ih:=fun d c h=>oX k n d c f xs h0 h;refine kA (fun e=>?_) fun n5=>FY (fun h=>?_) fun n6 n7=>⟨mul_r (by decide) (by decide),by decide,?_⟩
 . refine cE (ih d _ (by lia)) ?_;rintro _ ⟨A,rfl,h⟩;exact ⟨by decide,.un .neg A,rfl,(h.un .neg).up (by lia) (by lia)⟩
 . refine cE (ih (d+1) _ (by lia)) ?_;rintro _ ⟨A,rfl,hA⟩;refine ⟨by decide,?_⟩;rcases h with h | h<;>rw [eq_of_beq h]
   . exact ⟨.un .all A,rfl,(hA.un .all).up (by lia) (by lia)⟩
   . exact ⟨.un .ex A,rfl,(hA.un .ex).up (by lia) (by lia)⟩
 . refine cE (ih d _ (by lia)) ?_;rintro _ ⟨A,rfl,hA⟩;refine ⟨mul_r (by decide) (by decide),by decide,cE (ih d _ (by lia)) ?_⟩;rintro _ ⟨C,rfl,hC⟩;rcases ks with ks | ⟨b,rfl⟩
   . simp only [cD] at ks
     simp_all
   . exact ⟨by decide,.bi b A C,rfl,(hA.bi b hC).up (by lia) (by lia)⟩
termination_by k
theorem Iu (v:Int):∃ b:Bool,atI [D.str "left",D.str "right"] (v % 2) = some (.str (sd b)):=by
 have a1:=bF v (show (2:Int)≠0 by decide);have a2:=bp v (show (0:Int) < 2 by decide);rcases (show v % 2 = 0\/v % 2 = 1 by lia) with e | e
 . exact ⟨true,by rw [e];kernel_rfl⟩
 . exact ⟨false,by rw [e];kernel_rfl⟩
theorem wt (n:Nat) (c f:Int) (xs:List Str) (h0:0 < xs.length) (h1:xs.length < 80):iM Gs gls (n+6) 29 [.int c,.lst (xs.map .str),.int f] fun D=>∃ p:It,D = itD p/\St xs 2 2 p.2:=by
 refine bq gZ rfl rfl rfl ?_;simp only [gZ,init,SI,Nat.reduceAdd,Nat.reduceSub];simp only [ay,aB,↓WS,↓WC,WI,↓reduceIte];obtain ⟨b,eb⟩:=Iu c;refine ⟨by decide,by decide,_,eb,by decide,cE (oX 2 n 0 (c / 2) f xs h0 (by lia)) ?_⟩;rintro _ ⟨A,rfl,h⟩;exact ⟨by decide,(b,A),rfl,h⟩
theorem EG (n:Nat) (p:It):PP.run Gs gls (n+1) 30 [itD p] = some (itD (!p.1,p.2)):=by
 obtain ⟨b,A⟩:=p;cases b<;>kernel_rfl
theorem at3 {x y z:Str} (v:Int) {P:Str->Prop} (hx:P x) (hy:P y) (hz:P z):∃ t:Str,atI [D.str x,D.str y,D.str z] (v % 3) = some (.str t)/\P t:=by
 have a1:=bF v (show (3:Int)≠0 by decide);have a2:=bp v (show (0:Int) < 3 by decide);rcases (show v % 3 = 0\/v % 3 = 1\/v % 3 = 2 by lia) with e | e | e
 . exact ⟨x,by rw [e];kernel_rfl,hx⟩
 . exact ⟨y,by rw [e];kernel_rfl,hy⟩
 . exact ⟨z,by rw [e];kernel_rfl,hz⟩
theorem at4 {x y z w:Str} (v:Int) {P:Str->Prop} (hx:P x) (hy:P y) (hz:P z) (hw:P w):∃ t:Str,atI [D.str x,D.str y,D.str z,D.str w] (v % 4) = some (.str t)/\P t:=by
 have a1:=bF v (show (4:Int)≠0 by decide);have a2:=bp v (show (0:Int) < 4 by decide);rcases (show v % 4 = 0\/v % 4 = 1\/v % 4 = 2\/v % 4 = 3 by lia) with e | e | e | e
 . exact ⟨x,by rw [e];kernel_rfl,hx⟩
 . exact ⟨y,by rw [e];kernel_rfl,hy⟩
 . exact ⟨z,by rw [e];kernel_rfl,hz⟩
 . exact ⟨w,by rw [e];kernel_rfl,hw⟩
noncomputable def nmO (w:Str):Prop:=w = ""\/nm w
theorem IC (n:Nat) (A:F) (c e:Int) {x y z:Str} (hx:nm x) (hy:nm y) (hz:nm z):iM Gs gls (n+2) 31 [enc A,.int c,.int e,.lst [.str x,.str y,.str z]] fun D=>∃ w:Str,D = .str w/\nmO w:=by
 obtain ⟨t,et,ht⟩:=at3 (P:=nm) e hx hy hz;obtain ⟨u,eu,hu⟩:=at4 (x:="") (y:="") (z:="") (w:=t) (P:=nmO) c (.inl rfl) (.inl rfl) (.inl rfl) (.inr ht);rw [iT A];refine bq fC rfl rfl rfl ?_;simp only [fC,init,SI,Nat.reduceAdd,Nat.reduceSub];simp only [ay,aB,↓hW,↓WS,↓WC,WI,↓reduceIte]
 have fin:iM Gs gls (n+1) 21 [.int (e / 3)] fun z1=>0+1+1+1+1<=sizeLine/\(0:Int) < 4/\∃ c1,atI [D.str "",D.str x,D.str t,z1] (c % 4) = some c1/\∃ w:Str,c1 = .str w/\nmO w:=by
  refine cE (yE n (e / 3)) ?_;rintro _ ⟨v,rfl,hv⟩;obtain ⟨q,eq,hq⟩:=at4 (x:="") (y:=x) (z:=t) (w:=v) (P:=nmO) c (.inl rfl) (.inr hx) (.inr ht) (.inr hv);exact ⟨by decide,by decide,_,eq,q,rfl,hq⟩
 exact kA (fun _=>kA (fun _=>⟨by decide,_,et,by decide,by decide,_,eu,u,rfl,hu⟩) fun _=>⟨_,rfl,by decide,_,et,⟨by decide,by decide⟩,fin⟩) fun _=>⟨_,rfl,by decide,_,et,⟨by decide,by decide⟩,fin⟩
theorem HJ {cx:Cl} {δ:PP.Loc} {a:E} {Q:D->PP.Loc->Prop}:wE cx (.ssd a) δ Q↔wE cx a δ fun x δ1=>∃ ds,x = .lst ds/\(ds.all hok && sortable (kB ds) && tot (kB ds)) = true/\Q (.lst (dh (kB ds))) δ1:=xb.trans (xc fun x _=>by
 cases x with
 | lst k=>refine Iff.trans ?_ xl.symm;exact xi
 | _=>exact xn fun ⟨_,e,_⟩=>by cases e)
theorem uL {l:List It}:∀ {xs:List D},(∀ x∈xs,x∈l.map itD)->∃ l':List It,xs = l'.map itD/\∀ p∈l',p∈l
 | [],_=>⟨[],rfl,fun _ h=>by cases h⟩
 | x::xs,h=>by
   obtain ⟨p,hp,rfl⟩:=aU.mp (h x ao);obtain ⟨l',rfl,h'⟩:=uL (xs:=xs) fun y hy=>h y (aq _ hy)
   exact ⟨p::l',rfl,fun q hq=>by
    rcases aD.mp hq with rfl | hq
    . exact hp
    . exact h' q hq⟩
theorem Js {p q:It} (h:itD p = itD q) (hq:sz q.2<=61):p = q:=Gz (by rw [h];exact eq_self q hq)
theorem EH (n:Nat) (l:List It) (h:∀ p∈l,hF p.2<=3/\sz p.2<=61) (hl:l.length<=60) (T:D) (b:Bool) (w:∀ row:List It,(∀ p,p∈row↔p∈l)->row.length<=60->PP.run Gs gls n 18 [.tup (row.map itD),T] = some (.bl b)):PP.run Gs gls (n+1) 33 [.lst (l.map itD),T,.bl b] = some (.bl true):=by
 have ss:=s64
 have hbs:∀ x∈l.map itD,hb x = true:=fun x hx=>by
  obtain ⟨p,_,rfl⟩:=aU.mp hx;exact OK p
 have lo:low l:=fun p hp=>(h p hp).2
 have nl:(kB (l.map itD)).length<=l.length:=by
  have:=qG (ns:=l.map itD) (rL hbs) fun x hx=>(lg hbs).mp hx
  rwa [aj] at this
 have hs:sortable (kB (l.map itD)) = true:=by
  refine sg (n:=60) (by decide) hbs (fun k nd hk=>?_) (fun x hx=>?_) fun x hx y hy=>?_
  . have:=qG (ns:=l.map itD) nd hk;rw [aj] at this
    lia
  . obtain ⟨p,_,rfl⟩:=aU.mp hx;rfl
  . obtain ⟨p,hp,rfl⟩:=aU.mp hx;obtain ⟨q,hq,rfl⟩:=aU.mp hy;have:=ke p (lo p hp);have:=ke q (lo q hq);unfold kS;rw [if_pos (by lia)];exact kR (lts fun _=>ltc (rh _ _) (ltn _))
 have ht:tot (kB (l.map itD)) = true:=La hs fun d hd=>hbs d ((lg hbs).mp hd)
 have hk:(l.map itD).all hok = true:=by
  rw [bx];intro x hx;obtain ⟨p,hp,rfl⟩:=aU.mp hx;have:=kZ p.2;have:=(h p hp).1;have e:bZ [enc p.2] = max (dep (enc p.2)) 0:=by unfold bZ bZ;rfl
  show (hbL [enc p.2] && decide (bZ [enc p.2]<=7)) = true;rw [aa,decide_eq_true_eq,e];exact ⟨by simp only [hbL,rE,cB],by lia⟩
 obtain ⟨l',e1,h1⟩:=uL (l:=l) (xs:=kB (l.map itD)) fun x hx=>(lg hbs).mp hx;obtain ⟨ys,e2,pm⟩:=lF itD l'
 have w:=w ys (fun p=>⟨fun hp=>h1 p (pm.mem_iff.mp hp),fun hp=>pm.mem_iff.mpr (by
  have:itD p∈kB (l.map itD):=(lg hbs).mpr (iW hp);rw [e1] at this;obtain ⟨q,hq,e⟩:=aU.mp this;rw [<- Js e (lo p hp)];exact hq)⟩) (by rw [pm.length_eq];rw [e1,aj] at nl;lia)
 rw [<- e2,<- e1] at w;apply bu;refine bq jh rfl rfl rfl ?_;simp only [jh,init,SI,Nat.reduceAdd,Nat.reduceSub];simp only [↓HJ,↓WS,↓WC,WI,↓reduceIte,hk,hs,ht,cB,true_and,↓bc w];exact ⟨.bl true,rfl,true,rfl,ka ⟨true,by cases b<;>rfl,rfl⟩⟩
theorem qY:∀ {A:F},(tms A).length<=1000->okF A
 | .yes,_ | .no,_=>trivial
 | .word _ _,h=>h
 | .un _ a,h=>qY (A:=a) h
 | .bi _ x y,h=>by
   have h:(tms x++tms y).length<=1000:=h;rw [ar] at h;exact ⟨qY (by lia),qY (by lia)⟩
theorem mX (f:Str->Int->Str):∀ (A:F) (k:Int),(tms (gG f A k)).length = (tms A).length/\∀ t∈tms (gG f A k),∃ s∈tms A,∃ j,t = f s j
 | .yes,_ | .no,_=>⟨rfl,fun t h=>by cases h⟩
 | .word w ts,k=>⟨by simp [gG,tms],fun t h=>by
   obtain ⟨s,hs,rfl⟩:=aU.mp h
   exact ⟨s,hs,k,rfl⟩⟩
 | .un u a,k=>mX f a (k+up u)
 | .bi b x y,k=>by
   obtain ⟨a1,a2⟩:=mX f x k;obtain ⟨b1,b2⟩:=mX f y k;refine ⟨by simp only [gG,tms,ar,a1,b1],fun t h=>?_⟩;rcases br.mp h with h | h
   . obtain ⟨s,hs,e⟩:=a2 t h;exact ⟨s,cJ _ hs,e⟩
   . obtain ⟨s,hs,e⟩:=b2 t h;exact ⟨s,aV _ hs,e⟩
abbrev So (xs:List Str) (A:F):Prop:=St xs 2 2 A
theorem Nh {xs:List Str} {L:Bool} {w:Str} (hw:w∈xs) {A:F} (h:So xs A) (b:List It) (hb:b∈brs L w A):0 < b.length/\b.length<=2/\∀ p∈b,So xs p.2:=by
 obtain ⟨h1,h2,h3⟩:=AI L w A b hb;refine ⟨h1,h2,fun p hp=>?_⟩;obtain ⟨a,ha,e⟩:=h3 p hp;obtain ⟨k1,k2,k3,k4⟩:=zG ha;have ha:So xs a:=⟨aX k1 h.1,bV k2 h.2.1,aX k3 h.2.2.1,fun t ht=>h.2.2.2 t (k4 t ht)⟩;rcases e with e | e
 . rw [e];exact ha
 . obtain ⟨q1,q2⟩:=mX (pf w) a 0;obtain ⟨a1,a2,a3,a4⟩:=ha;rw [e];refine ⟨by rw [qe];exact a1,by rw [mY];exact a2,by rw [q1];exact a3,fun t ht=>?_⟩;obtain ⟨s,hs,j,rfl⟩:=q2 t ht;unfold pf;split
   . exact .inl hw
   . exact a4 s hs
section
variable {xs:List Str} (hx:∀ t∈xs,nm t) (hl:xs.length<=10)
include hx
theorem So.pd {A:F} (h:So xs A):∀ t∈tms A,Pd t:=fun t ht=>(h.2.2.2 t ht).imp (hx t) fun ⟨j,a,b,e⟩=>⟨j,a,by lia,e⟩
theorem So.nms {A:F} (h:So xs A):∀ t∈iY A,t∈xs:=fun t ht=>by
 unfold iY at ht;obtain ⟨h1,h2⟩:=lD.mp ht;rcases h.2.2.2 t h1 with z | ⟨j,j0,_,rfl⟩
 . exact z
 . rw [qP j0] at h2;cases h2
include hl
theorem Eb (n:Nat) (l:List It) (h:∀ p∈l,So xs p.2) (h6:l.length<=60) (L:Bool) (A:F) (hA:So xs A) (w:Str) (m:Nat) {Q:D->Prop} (q:Q (.bl true)):iM Gs gls (n+40) 32 [.lst (l.map itD),.str (sd L),enc A,.str w,.int m] fun z=>iM Gs gls (n+40) 33 [.lst (l.map itD),oF L A w (aC m CL),z] Q:=by
 have lo:low l:=fun p hp=>by have:=(h p hp).2.1;lia
 have hs:sz A<=61:=by have:=hA.2.1;lia
 have h9:hF A<=10:=by have:=hA.1;lia
 have ok:okF A:=qY (by have:=hA.2.2.1;lia);have pd:=So.pd hx hA;have w1:=NY (n+39) (by lia) l L A w m lo h6 (fun p hp=>⟨by have:=(h p hp).1;lia,So.pd hx (h p hp),by have:=(h p hp).2.2.1;lia⟩) hs h9 ok pd;refine (bc w1).mpr ((bc (EH (n+39) l (fun p hp=>⟨(h p hp).1,lo p hp⟩) h6 _ _ fun row hr h60=>?_)).mpr q);have lr:low row:=fun p hp=>lo p ((hr p).mp hp);rw [<- OP hr lo hs]
 exact IE hl (n+38) (by lia) row L A w m lr h60 (fun p hp=>by
  have:=h p ((hr p).mp hp);exact ⟨lr p hp,by have:=this.1;lia,So.nms hx this,by have:=this.2.2.1;lia⟩) hs h9 ok pd
omit hl in
theorem HQ (n:Nat) (l:List It) (h:∀ p∈l,So xs p.2) (h6:l.length<=60) {Q:D->Prop} (q:Q (.bl true)):iM Gs gls (n+40) 27 [.lst (l.map itD)] fun z=>iM Gs gls (n+40) 33 [.lst (l.map itD),CL,z] Q:=by
 have lo:low l:=fun p hp=>by have:=(h p hp).2.1;lia
 refine (bc (sP (n+39) l lo (by lia))).mpr ((bc (EH (n+39) l (fun p hp=>⟨(h p hp).1,lo p hp⟩) h6 _ _ fun row hr h60=>?_)).mpr q);have lr:low row:=fun p hp=>lo p ((hr p).mp hp);have:(·∈row) = (·∈l):=funext fun p=>propext (hr p);rw [show cl l = cl row from rN (by rw [vh lr,vh lo,this])];exact zM (n+37) row lr (by lia)
end
theorem Jh {P:D->D->Prop} (hP:∀ x y,P x y->∃ w:Str,y = .str w/\nm w) {ds ys:List D} (r:Paired P ds ys):∃ ws:List Str,ys = ws.map .str/\ws.length = ds.length/\∀ w∈ws,nm w:=by
 induction r with
 | nil=>exact ⟨[],rfl,rfl,fun _ h=>by cases h⟩
 | cons h t ih =>
   obtain ⟨w,rfl,hw⟩:=hP _ _ h;obtain ⟨cs,rfl,hl,hc⟩:=ih;exact ⟨w::cs,rfl,by simp [hl],fun p hp=>(aD.mp hp).elim (fun e=>e▸hw) (hc p)⟩
theorem ML {xs:List Str} {P:D->D->Prop} (hP:∀ x y,P x y->∃ p:It,y = itD p/\So xs p.2) {ds ys:List D} (r:Paired P ds ys):∃ l:List It,ys = l.map itD/\l.length = ds.length/\∀ p∈l,So xs p.2:=by
 induction r with
 | nil=>exact ⟨[],rfl,rfl,fun _ h=>by cases h⟩
 | cons h t ih =>
   obtain ⟨w,rfl,hw⟩:=hP _ _ h;obtain ⟨cs,rfl,hl,hc⟩:=ih;exact ⟨w::cs,rfl,by simp [hl],fun p hp=>(aD.mp hp).elim (fun e=>e▸hw) (hc p)⟩
theorem PL {α:Type} {l:List α} (h:l.length = 3):∃ a b c,l = [a,b,c]:=by
 cases l with
 | nil=>cases h
 | cons a l =>
   cases l with
   | nil=>cases h
   | cons b l =>
     cases l with
     | nil=>cases h
     | cons c l =>
       cases l with
       | nil=>exact ⟨a,b,c,rfl⟩
       | cons d l=>cases h
theorem ub {ds:List D} {lo hi:Option Int} {Q:D->Prop}:wSl (.lst ds) lo hi Q↔Q (.lst (cutD ds lo hi)):=by simp [wSl,slD]
theorem vd {ds:List D} {lo hi:Option Int} {x:D} (h:x∈cutD ds lo hi):x∈ds:=by
 unfold cutD at h;exact lZ (AW h)
theorem AB (ds:List D) (lo hi:Option Int):(cutD ds lo hi).length<=ds.length:=by
 unfold cutD;exact aX (List.length_take_le' _ _) (by rw [eF];lia)
theorem OS (ds:List D):(cutD ds (some 2) (some 30)).length<=28:=by
 unfold cutD;rw [show (2:Int) = ((2:Nat):Int) from rfl,show (30:Int) = ((30:Nat):Int) from rfl,HT.sIx_nat,HT.sIx_nat];refine aX (List.length_take_le _ _) (Nat.sub_le_iff_le_add.mpr ?_);rw [<- Nat.add_min_add_left];exact Hk.mpr ⟨sy _ _,aX (iw _ _) (Nat.le_add_left _ _)⟩
noncomputable def st1 (S:D) (δ:PP.Loc):Prop:=∃ (c e:Int) (x y z:Str),δ = [.val S,.val (.int c),.val (.int e),.val (.lst [.str x,.str y,.str z]),.no,.no,.no,.no,.no,.no,.no,.no,.no]/\nm x/\nm y/\nm z
noncomputable def st2 (S:D) (δ:PP.Loc):Prop:=∃ (c e:Int) (x y z:Str) (l:List It) (p:It),δ = [.val S,.val (.int c),.val (.int e),.val (.lst ([x,y,z].map .str)),.val (.lst (l.map itD)),.val (.str (sd p.1)),.val (enc p.2),.no,.no,.no,.no,.no,.no]/\(nm x/\nm y/\nm z)/\(∀ q∈l,So [x,y,z] q.2)/\l.length<=28/\So [x,y,z] p.2
noncomputable def st3 (S:D) (δ:PP.Loc):Prop:=∃ (c e:Int) (x y z v w:Str) (l:List It) (p:It),δ = [.val S,.val (.int c),.val (.int e),.val (.lst [.str x,.str y,.str z]),.val (.lst (l.map itD)),.val (.str (sd p.1)),.val (enc p.2),.val (.str w),.no,.no,.no,.no,.no]/\((∀ t∈[x,y,z,v],nm t)/\v = if w == "" then x else w)/\(∀ q∈l,So [x,y,z,v] q.2)/\l.length<=29/\So [x,y,z,v] p.2
noncomputable def st4 (δ:PP.Loc):Prop:=∃ (s0 s1 s3 s9:Sl) (e:Int) (xs:List Str) (w:Str) (l:List It) (bs:List (List It)) (p:It),δ = [s0,s1,.val (.int e),s3,.val (.lst (l.map itD)),.val (.str (sd p.1)),.val (enc p.2),.val (.str w),.val (brD bs),s9,.no,.no,.no]/\((∀ t∈xs,nm t)/\xs.length<=10)/\(∀ q∈l,So xs q.2)/\l.length<=32/\So xs p.2/\bs.length<=2
theorem So.mono {xs ys:List Str} (h:∀ t∈xs,t∈ys) {A:F} (hA:So xs A):So ys A:=⟨hA.1,hA.2.1,hA.2.2.1,fun t ht=>(hA.2.2.2 t ht).imp (h t) id⟩
theorem main (ns:List Int) (hn:ns.length<=63):PP.run Gs gls 200 34 [.lst (ns.map .int)] = some (.bl true):=by
 apply bu;refine bq d_law rfl rfl rfl ?_;simp only [d_law,init,SI,Nat.reduceAdd,Nat.reduceSub];refine jQ (R:=st1 (.lst (ns.map .int))) 4 _ _ ?_ fun δ h=>?_
 . simp only [kL,fU,↓WS,↓WC,WI,↓reduceIte];refine cE (yF 198 ns 0 (by decide) (by decide)) ?_;rintro _ ⟨c,rfl⟩;simp only [ay,aB,↓WS,↓WC,WI,↓reduceIte];refine cE (yF 198 ns 1 (by decide) (by decide)) ?_;rintro _ ⟨e,rfl⟩;refine ⟨⟨by decide,by decide⟩,iN (fun _ y=>∃ w:Str,y = .str w/\nm w) _ ?_ ?_⟩
   . intro z hz;obtain ⟨i,hi,rfl⟩:=uu hz;simp only [SI,↓WS,↓WC,WI,↓reduceIte];refine ⟨trivial,by decide,cE (EI 198 (c / 4) "z" (by decide +kernel) ⟨122,[],rfl,by decide,by decide⟩ _ (by lia) (by have:i < 3:=hi;lia)) ?_⟩;exact fun _ h=>⟨h,rfl⟩
   intro ys r;obtain ⟨ws,rfl,hw,hm⟩:=Jh (fun _ _ h=>h) r;rw [mS] at hw;obtain ⟨x,y,z,rfl⟩:=PL hw;refine ⟨by show 3<=sizeLine;decide,?_⟩;simp only [ay,aB,aP,fQ,SI,↓WS,↓WC,WI,↓reduceIte];refine ⟨by decide,kA (fun _=>cE (yE 198 e) ?_) fun _=>?_⟩
   . rintro _ ⟨a,rfl,ha⟩;refine ⟨by decide,cE (yE 198 (c / 4)) ?_⟩;rintro _ ⟨b,rfl,hb⟩;exact ⟨by decide,c,e,a,"n0",b,rfl,ha,⟨110,[48],rfl,by decide,by decide⟩,hb⟩
   . exact ⟨c,e,x,y,z,rfl,hm _ (by simp),hm _ (by simp),hm _ (by simp)⟩
 obtain ⟨c,e,x,y,z,rfl,nx,ny,nz⟩:=h;refine jQ (R:=st2 (.lst (ns.map .int))) 3 _ _ ?_ fun δ h=>?_
 . simp only [kL,fU,↓ub,↓WS,↓WC,WI,↓reduceIte];refine iN (fun _ q=>∃ p:It,q = itD p/\So [x,y,z] p.2) _ ?_ ?_
   . intro v hv;obtain ⟨i,_,rfl⟩:=aU.mp (vd hv);simp only [SI,↓WS,↓WC,WI,↓reduceIte];refine ⟨trivial,by decide,cE (wt 193 i (c / 5) [x,y,z] (by simp) (by simp)) ?_⟩;exact fun _ h=>⟨h,rfl⟩
   intro ys r;obtain ⟨l,rfl,hl,hm⟩:=ML (fun _ _ h=>h) r;have h28:l.length<=28:=by rw [hl];exact OS _
   have ss:=s64;simp only [ay,aB,aj,SI,↓WS,↓WC,WI,↓reduceIte];refine ⟨by lia,cE (yF 198 ns 2 (by decide) (by decide)) ?_⟩;rintro _ ⟨c2,rfl⟩;simp only [↓WS,↓WC,WI,↓reduceIte];refine ⟨by decide,⟨by decide,by decide⟩,cE (wt 193 (c2 / 3) (c / 5) [x,y,z] (by simp) (by simp)) ?_⟩;rintro _ ⟨p,rfl,hp⟩;show wTg _ (Tg.tp [5,6]) (D.tup [D.str (sd p.1),enc p.2]) _;simp only [↓mI,ay,aB,aj,SI,↓WS,↓WC,WI,↓reduceIte];have no:nxS (st2 (.lst (ns.map .int))) (retS fun x=>x = D.bl true) (.nx [.val (.lst (ns.map .int)),.val (.int c),.val (.int e),.val (.lst [.str x,.str y,.str z]),.val (.lst (l.map itD)),.val (.str (sd p.1)),.val (enc p.2),.no,.no,.no,.no,.no,.no]):=⟨c,e,x,y,z,l,p,rfl,⟨nx,ny,nz⟩,hm,h28,hp⟩;refine ⟨⟨by decide,by decide⟩,by decide,kA (fun _=>kA (fun h=>?_) fun _=>no) fun _=>no⟩;obtain ⟨d,hd,et⟩:=nJ (ds:=l.map itD) (j:=e / 5 % (l.length:Int)) (bF _ (by lia)) (by rw [aj];exact bp _ (by lia));obtain ⟨q,hq,rfl⟩:=aU.mp hd;refine ⟨⟨by decide,by decide⟩,by lia,_,et,?_⟩;show wTg _ (Tg.tp [5,6]) (D.tup [D.str (sd q.1),enc q.2]) _;simp only [↓mI,SI,↓WS,↓WC,WI,↓reduceIte];exact ⟨c,e,x,y,z,l,q,rfl,⟨nx,ny,nz⟩,hm,h28,hm q hq⟩
 obtain ⟨c,e,x,y,z,l,p,rfl,⟨nx,ny,nz⟩,hm,h28,hp⟩:=h;refine jQ (R:=st3 (.lst (ns.map .int))) 2 _ _ ?_ fun δ h=>?_
 . simp only [kL,fU,aP,fQ,ay,aB,aj,SI,↓WS,↓WC,WI,↓reduceIte];refine ⟨⟨by decide,by decide⟩,cE (IC 197 p.2 _ e nx ny nz) ?_⟩;rintro _ ⟨w,rfl,hw⟩;have sub:∀ t∈[x,y,z],t∈[x,y,z,if w == "" then x else w]:=by simp +contextual
   have nv:∀ t∈[x,y,z,if w == "" then x else w],nm t:=fun t ht=>by
    simp only [aD,cz,or_false] at ht;rcases ht with rfl | rfl | rfl | rfl
    . exact nx
    . exact ny
    . exact nz
    . rcases hw with rfl | hw
      . exact nx
      . split
        . exact nx
        . exact hw
   have hm:=fun q hq=>So.mono sub (hm q hq);have hp:=So.mono sub hp;have ss:=s64;refine ⟨⟨by decide,by decide⟩,by decide,kA (fun _=>⟨by decide,by decide,by lia,?_⟩) fun _=>⟨c,e,x,y,z,_,w,l,p,rfl,⟨nv,rfl⟩,hm,by lia,hp⟩⟩;refine ⟨c,e,x,y,z,_,w,l++[p],p,by rw [bE];rfl,⟨nv,rfl⟩,fun q hq=>?_,by rw [ar];simp only [ay,aB];lia,hp⟩;exact (br.mp hq).elim (hm q) fun h=>by rw [bU.mp h];exact hp
 obtain ⟨c,e,x,y,z,v,w,l,p,rfl,⟨nv,ev⟩,hm,h29,hp⟩:=h;refine jQ (R:=st4) 3 _ _ ?_ fun δ h=>?_
 . simp only [kL,fU,ay,aB,SI,↓WS,↓WC,WI,↓reduceIte]
   have ea:atI [D.str w,D.str x] (if (w == "") = true then 1 else 0) = some (.str v):=by
    rw [ev];cases (w == "")<;>kernel_rfl
   have wp:=wx 198 p.1 v p.2 (by have:=hp.1;lia) (by have:=hp.1;lia) (qY (by have:=hp.2.2.1;lia)) (So.pd nv hp);have b2:=vp p.1 v p.2;have bo:=Nh (L:=p.1) (w:=v) (xs:=[x,y,z,v]) (by simp) hp;generalize brs p.1 v p.2 = bs at wp b2 bo;refine ⟨_,rfl,by decide,_,ea,(bc wp).mpr ⟨⟨by decide,by decide⟩,by decide,?_⟩⟩;unfold brD;simp only [↓ub,↓WS,↓WC,WI,↓reduceIte];have ss:=s64;refine mL (fun ds δ=>∃ (l:List It) (s9:Sl),δ = [.val (.lst (ns.map .int)),.val (.int c),.val (.int e),.val (.lst [.str x,.str y,.str z]),.val (.lst (l.map itD)),.val (.str (sd p.1)),.val (enc p.2),.val (.str w),.val (brD bs),s9,.no,.no,.no]/\(∀ q∈l,So [x,y,z,v] q.2)/\l.length+ds.length<=31/\∀ d∈ds,∃ b:List It,d = .lst (b.map itD)/\0 < b.length/\b.length<=2/\∀ q∈b,So [x,y,z,v] q.2) ?_ ?_ _ _ ⟨l,_,rfl,hm,?_,fun d hd=>?_⟩
   . rintro d ds δ ⟨l,s9,rfl,hm,h31,hd⟩;obtain ⟨b,rfl,b0,b2,hb⟩:=hd d ao;rw [ay] at h31;simp only [ay,aB,aj,SI,↓WS,↓WC,WI,↓reduceIte];obtain ⟨d,hdd,et⟩:=nJ (ds:=b.map itD) (j:=e / 11 % (b.length:Int)) (bF _ (by lia)) (by rw [aj];exact bp _ (by lia));obtain ⟨q,hq,rfl⟩:=aU.mp hdd;refine ⟨⟨by decide,by decide⟩,by lia,_,et,(bc (EG 198 q)).mpr ⟨by decide,by lia,l++[(!q.1,q.2)],_,by rw [bE];rfl,fun r hr=>?_,by rw [ar,bP];lia,fun d z=>hd d (aq _ z)⟩⟩;exact (br.mp hr).elim (hm r) fun h=>by rw [bU.mp h];exact hb q hq
   . rintro δ ⟨l,s9,rfl,hm,h31,_⟩;simp only [ay,aB,aj,SI,↓WS,↓WC,WI,↓reduceIte];refine ⟨⟨by decide,by decide⟩,by decide,kA (fun _=>⟨by decide,by decide,by decide,by simp only [aB] at h31;lia,?_⟩) fun _=>⟨_,_,_,_,e,[x,y,z,v],w,l,bs,p,rfl,⟨nv,by simp⟩,hm,by lia,hp,b2⟩⟩;refine ⟨_,_,_,_,e,[x,y,z,v],w,l++[(true,.no)],bs,p,by rw [bE];rfl,⟨nv,by simp⟩,fun r hr=>?_,by rw [ar,bP];simp only [aB] at h31;lia,hp,b2⟩;exact (br.mp hr).elim (hm r) fun h=>by rw [bU.mp h];exact .lf (.inr rfl)
   . have:=AB (bs.map fun b=>D.lst (b.map itD)) none (some (1+e / 7 % 4));rw [aj] at this
     lia
   . obtain ⟨b,hb,rfl⟩:=aU.mp (vd hd);exact ⟨b,rfl,bo b hb⟩
 obtain ⟨s0,s1,s3,s9,e,xs,w,l,bs,p,rfl,⟨nv,h10⟩,hm,h32,hp,b2⟩:=h
 have em:∃ m:Nat,m<=3/\∃ k:Int,atI [D.int 0,D.int 0,D.int 0,D.int 1,D.int (-1)] (e / 17 % 5) = some (.int k)/\(if (bs.length:Int)+k > 0 then (bs.length:Int)+k else 0) = m:=by
  obtain ⟨d,hd,et⟩:=nJ (ds:=[D.int 0,D.int 0,D.int 0,D.int 1,D.int (-1)]) (bF (e / 17) (show (5:Int)≠0 by decide)) (bp (e / 17) (show (0:Int) < 5 by decide))
  obtain ⟨k,hk,rfl⟩:∃ k:Int,k<=1/\d = .int k:=by
   simp only [aD,cz,or_false] at hd;rcases hd with rfl | rfl | rfl | rfl | rfl<;>exact ⟨_,by decide,rfl⟩
  exact ⟨(if (bs.length:Int)+k > 0 then (bs.length:Int)+k else 0).toNat,by split<;>lia,k,et,by split<;>lia⟩
 obtain ⟨m,m3,k,ek,em⟩:=em;refine jQ (R:=fun δ=>δ = [s0,s1,.val (.int e),s3,.val (.lst (l.map itD)),.val (.str (sd p.1)),.val (enc p.2),.val (.str w),.val (brD bs),s9,.val (.int m),.val (oF p.1 p.2 w (aC m CL)),.no]) 2 _ _ ?_ fun δ h=>?_
 . simp only [kL,fU,brD,ay,aB,aj,SI,↓WS,↓WC,WI,↓reduceIte];refine ⟨by decide,⟨by decide,by decide⟩,by decide,_,ek,?_⟩;simp only [↓WS,↓WC,WI,↓reduceIte,em];refine ⟨⟨by lia,by lia⟩,iN (fun _ y=>y = CL) _ ?_ ?_⟩
   . intro z hz;simp only [SI,↓WS,↓WC,WI,↓reduceIte];exact ⟨trivial,by decide,rfl,rfl⟩
   intro ys r
   have:ys = aC m CL:=by
    have h2:∀ {ds ys:List D},Paired (fun _ y=>y = CL) ds ys->ys = aC ds.length CL:=fun r=>by
     induction r with
     | nil=>rfl
     | cons h t ih=>rw [h,ih];rfl
    have:=h2 r;rw [mS] at this;simpa using this
   subst this;have ss:=s64;simp only [cA,ay,aB,SI,↓WS,↓WC,WI,↓reduceIte];exact ⟨by lia,by decide,rfl⟩
 subst h;have l6:l.length<=60:=by lia
 have t1:=fun Q q=>Eb nv h10 159 l hm l6 p.1 p.2 hp w m (Q:=Q) q;have t2:=fun Q q=>HQ (xs:=xs) nv 159 l hm l6 (Q:=Q) q;obtain ⟨l',e',h'⟩:=uL (l:=l) (xs:=cutD (l.map itD) none (some (-1))) fun x hx=>vd hx
 have h6:l'.length<=60:=by
  have:=AB (l.map itD) none (some (-1));rw [e',aj,aj] at this
  lia
 have t3:=fun Q q=>Eb nv h10 159 l' (fun q hq=>hm q (h' q hq)) h6 p.1 p.2 hp w m (Q:=Q) q;simp only [fU,↓ub,ay,aB,e',SI,↓WS,↓WC,WI,↓reduceIte];refine t1 _ ?_;simp only [↓WS,↓WC,WI,↓reduceIte];refine ⟨by decide,t2 _ ?_⟩;simp only [ay,aB,e',SI,↓WS,↓WC,WI,↓reduceIte];refine t3 _ ?_;simp only [↓WS,↓WC,WI,↓reduceIte];exact t1 _ rfl
theorem PJ:Ha L0:=⟨rfl,rfl,rfl,by decide +kernel,by decide +kernel,by decide +kernel,by decide +kernel,by decide +kernel,fun _ _ _ _ us hl=>rO rfl rfl rfl rfl rfl rfl (by decide +kernel) hl⟩
theorem PK:Ln Gs Gd gns 35 L0:=⟨PJ,d_lam0,(.ite (.and (.call 1 (.cons (.var 0) .nil)) (.cmp .eq (.blt .toInt (.cons (.var 0) .nil)) (.var 1))) (.var 2) (.var 0)),rfl,rfl,rfl,rfl,rfl,rfl,by decide +kernel⟩
theorem mem_ts {t:aw × Str} (h:t∈Tbs.ts):t = (49,("put_in.<locals>.<lambda>":Str)):=by
 have h:t∈[(49,("put_in.<locals>.<lambda>":Str))]:=h;simpa only [aD,cz,or_false] using h
theorem lams_ok:∀ p∈Tbs.lams,Ln Gs Gd gns p.1 p.2:=fun p h=>by
 have h:p∈([(35,L0)]:List (Nat × Lam)):=h;simp only [aD,cz,or_false] at h;rcases h with rfl
 . exact PK
theorem own_5 {C:Prop} {K:PySem.W.Frag} {h:bK} {mg:Str->Option af} {f cc:aw} {od an:Option aw} {sl:Array (Option af)} {oc kV dc pm ct:af} (X:K.In h) (G:h.Ns mainGlobals mg) (a:PySem.W.nsIn K mainGlobals "put_in" = some (some (.ref f))) (l:K.lookup f = some ⟨oc,od,.func (PySem.W.fnOf "put_in" "put_in" (gX (top 8)) (eK (top 8)) (bI (top 8)) .none kV dc pm an (.ref cc) ct),sl⟩) (c:PySem.W.codeIn K (.ref cc) "put_in" = true) (k:PySem.W.keepIn K (.ref f) = true) (h5:PySem.W.codeHdIn K cc 49 = true) (t5:K.lookup 49 = none) (q:(∃ st a fdd,Dn K mg (pQ Gd) gns jF st a fdd)->(K.lookup 49 = none/\∃ c,PySem.W.codeHdIn K c 49 = true)->C):C:=by
 have F:=Gu (st:=top 8) l c k;have o:okD jF (gX (top 8)) (bI (top 8)) = true:=by decide +kernel
 exact q ⟨_,_,_,F,PySem.W.mg_of X G a,Fu o,.inr (.inl ⟨{ f:=4,es:=(.cons (.var 0) (.cons (.int 0) .nil)),k:=35,caps:=[1],x:="with_terms",ps:=du.ps,y:=(rxs (top 8)).headD (.Constant .none 0 ⟨0,0,0,0⟩),ys:=(rxs (top 8)).dropLast.tail,p:=(rps (top 8)).1,lp:=PN (rlm (top 8)),pos:=(rps (top 8)).2.1,rp:=(rps (top 8)).2.2,L:=L0,c:=cc,P:=49,cells:=fun l=>[l+1],body:=rfl,text:=rfl,lam:=rfl,args:=by decide +kernel,npk:=rfl,fn:=rfl,gl:=by decide +kernel,nd:=by decide +kernel,dft:=fun _=>rfl,cl:=fun _ _ _=>rfl,cp:=fun X l a cd hN hE=>⟨_,_,_,_,rfl,rfl,by rw [hN];rfl,by rw [hE];rfl,by rw [hE];rfl,⟨rfl,rfl⟩⟩,code:=rfl,hd:=h5,tb:=by decide +kernel,un:=by decide +kernel,ql:=by decide +kernel }⟩),Fv F o⟩ ⟨t5,_,h5⟩
end P1
end
section
theorem PySem.W.Fast.te9490306641669647531:True:=trivial
open PySem PySem.W PyProof.Rows
set_option maxRecDepth 100000 in
set_option maxHeartbeats 0 in
theorem PySem.Challenge.cw_cutless_k10_a_rule_holds : PySem.Challenge.rw_cutless_k10_a_rule.Holds := by
 w_on
 refine PySem.W.holds_law (by decide +kernel) fun said=>?_
 k_head;(case hw=>w_witness2)
 k_fill
 refine PP.walk_run (l:=PySem.Challenge.rw_cutless_k10_a_rule) (G:=P1.Gs) (Gd:=P1.Gd) (gl:=P1.gls) (gn:=P1.gns) (i:=34) (fd:=P1.d_law) (x:="_law_script") P1.main rfl rfl rfl rfl (fun w h Y=>⟨PySem.W.km_in_of Y,fun t ht=>PySem.W.km_tabs_of Y t.1 (by rcases P1.mem_ts ht with rfl<;>decide)⟩) rfl fun w mg h KX G=>?_;apply P1.own_5 KX G;k_is;k_is;k_is;k_is;kernel_rfl;kernel_rfl;intro o5 t5;refine ⟨PP.top_mk (tp:=P1.top) (is:=P1.pls) KX G ?H (PP.sub_app (b:=[P1.d_lam0])) (by decide +kernel) P1.lams_ok ?B ?GL (fun n l h=>by cases h),?T⟩
 case T =>
  intro t ht;rcases P1.mem_ts ht with rfl
  . exact t5
 case H =>
  iterate 5 (apply PP.Hds.cons;k_is;k_is;k_is;k_is;decide +kernel)
  refine .own o5 ?_
  iterate 29 (apply PP.Hds.cons;k_is;k_is;k_is;k_is;decide +kernel)
  exact .nil
 case B=>kernel_rfl
 case GL=>repeat' first | exact .nil | exact .str | exact .int | exact Nat.le_of_ble_eq_true rfl | (apply PP.InK.tup;k_is) | (apply PP.Gls.cons;k_is) | apply PP.InKs.cons
end
