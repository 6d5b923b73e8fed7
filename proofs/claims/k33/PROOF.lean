import PyProof.Rows.All
import Wide.All
import OpenK.AllK
import Wide.FinOn
import Lean
import PyProof.EqAt
import PyProof.EqKinds
import PyProof.TupleCall
import KE.KSortAsk
import KE.KIntText
import KE.KMinBuiltin
import PyProof.FactsAll.int_1
import PySem.Challenge.RW_cutless_k33_two_branches_parted
noncomputable section
set_option Elab.async false
set_option linter.all false
set_option maxRecDepth 100000
set_option maxHeartbeats 4000000
section
-- CHANGE: your row's module here,as the last of these rows
namespace L2
open PySem PySem.Spec PyProof.Rows
abbrev Key:=Sum Int Str
def keyIs:Key→Value→Bool
 | .inl k,v=>Value.isInt k v
 | .inr x,v=>Value.isStrOf x v
def keyH (w:World):Key→Int
 | .inl k=>hashInt k
 | .inr x=>hashStr w x
theorem keyIs_shape:∀ {k:Key} {v:Value},keyIs k v = true→(∃ i t,k = Sum.inl i∧v = Value.int i t)∨(∃ x t,k = Sum.inr x∧v = Value.str x t)
 | .inl i,v,h=>by
   obtain ⟨t,e⟩:=Value.isInt_shape (k:=i) (v:=v) h
   exact .inl ⟨i,t,rfl,e⟩
 | .inr x,v,h=>by
   obtain ⟨t,e⟩:=Value.isStrOf_shape (x:=x) (v:=v) h
   exact .inr ⟨x,t,rfl,e⟩
theorem key_ll (a b:Int):decide ((Sum.inl a:Key) = Sum.inl b) = (a == b):=by
 by_cases e:a = b
 · subst e;simp
 · have h:¬ (Sum.inl a:Key) = Sum.inl b:=fun q=>e (Sum.inl.inj q)
   rw [decide_eq_false h]
   exact (beq_eq_false_iff_ne.mpr e).symm
theorem key_rr (a b:Str):decide ((Sum.inr a:Key) = Sum.inr b) = decide (a = b):=by
 by_cases e:a = b
 · subst e;simp
 · have h:¬ (Sum.inr a:Key) = Sum.inr b:=fun q=>e (Sum.inr.inj q)
   rw [decide_eq_false h,decide_eq_false e]
theorem key_lr (a:Int) (b:Str):decide ((Sum.inl a:Key) = Sum.inr b) = false:=decide_eq_false (fun q=>nomatch q)
theorem key_rl (a:Str) (b:Int):decide ((Sum.inr a:Key) = Sum.inl b) = false:=decide_eq_false (fun q=>nomatch q)
def mixKind (prog:Program) (w:World):PySem.KeyKind prog w Key where
 is:=keyIs
 hash:=keyH w
 inj:=fun v a b ha hb=>by
  rcases keyIs_shape ha with ⟨i,t,rfl,rfl⟩ | ⟨x,t,rfl,rfl⟩
  · rcases keyIs_shape hb with ⟨j,u,rfl,e⟩ | ⟨y,u,rfl,e⟩
    · injection e with e1 _;rw [e1]
    · exact nomatch e
  · rcases keyIs_shape hb with ⟨j,u,rfl,e⟩ | ⟨y,u,rfl,e⟩
    · exact nomatch e
    · injection e with e1 _;rw [e1]
 byValue:=fun k v h=>by
  rcases keyIs_shape h with ⟨i,t,rfl,rfl⟩ | ⟨x,t,rfl,rfl⟩<;>rfl
 pyHash:=fun hv h=>by
  rcases keyIs_shape hv with ⟨i,t,rfl,rfl⟩ | ⟨x,t,rfl,rfl⟩
  · exact wpAny_pyHash_int h
  · exact wpAny_pyHash_str h
 eqBool:=fun hu hv h=>by
  rcases keyIs_shape hu with ⟨i,t,rfl,rfl⟩ | ⟨x,t,rfl,rfl⟩
  · rcases keyIs_shape hv with ⟨j,u,rfl,rfl⟩ | ⟨y,u,rfl,rfl⟩
    · rw [key_ll] at h;exact wpAny_eqBool_int h
    · rw [key_lr] at h;exact SeqAt.EqAt.int_str i t y u _ _ _ _ h
  · rcases keyIs_shape hv with ⟨j,u,rfl,rfl⟩ | ⟨y,u,rfl,rfl⟩
    · rw [key_rl] at h;exact SeqAt.EqAt.str_int x t j u _ _ _ _ h
    · rw [key_rr] at h;exact wpAny_eqBool_str h
 «strs»:=fun k x t v h=>by
  rcases keyIs_shape h with ⟨i,u,rfl,e⟩ | ⟨y,u,rfl,e⟩
  · exact nomatch e
  · injection e with e1 _
    subst e1
    cases v<;>rfl
end L2
namespace L2
open PySem PySem.Spec PyProof.Rows
inductive V where
 | non | bl (b:Bool) | int (i:Int) | str (x:Str) | byt (b:Array UInt8) | flt (b:UInt64) | ref (a:Addr) | ty (n:String)
 deriving DecidableEq
def RelV:V→Value→Prop
 | .non,u=>u = Value.none
 | .bl b,u=>u = Value.bool b
 | .int i,u=>∃ t,u = Value.int i t
 | .str x,u=>∃ t,u = Value.str x t
 | .byt b,u=>∃ t,u = Value.bytes b t
 | .flt b,u=>∃ t,u = Value.float b t
 | .ref a,u=>u = Value.ref a
 | .ty n,u=>u = Value.type n
abbrev Vals:List V→List Value→Prop:=Paired RelV
theorem Vals.length {xs:List V} {us:List Value} (r:Vals xs us):xs.length = us.length:=Paired.length r
theorem Vals.get:∀ {xs:List V} {us:List Value} {i:Nat} {x:V},Vals xs us→xs[i]? = some x→∃ u,us[i]? = some u∧RelV x u
 | _,_,_,_,.nil,e=>by simp at e
 | _,_,0,_,.cons r _,e=>by simp at e;subst e;exact ⟨_,rfl,r⟩
 | _,_,i+1,x,.cons _ t,e=>by
   obtain ⟨u,h1,h2⟩:=Vals.get (i:=i) (x:=x) t (by simpa using e)
   exact ⟨u,by simpa using h1,h2⟩
theorem Vals.set {x:V} {u:Value} (r:RelV x u):∀ {xs:List V} {us:List Value} (i:Nat),Vals xs us→Vals (xs.set i x) (us.set i u)
 | _,_,_,.nil=>.nil
 | _,_,0,.cons _ t=>.cons r t
 | _,_,i+1,.cons q t=>.cons q (Vals.set r i t)
theorem Vals.append:∀ {xs ys:List V} {us ws:List Value},Vals xs us→Vals ys ws→Vals (xs++ys) (us++ws)
 | _,_,_,_,.nil,s=>s
 | _,_,_,_,.cons r t,s=>.cons r (Vals.append t s)
theorem Vals.take:∀ {xs:List V} {us:List Value} (n:Nat),Vals xs us→Vals (xs.take n) (us.take n)
 | _,_,0,_=>.nil
 | _,_,_+1,.nil=>.nil
 | _,_,n+1,.cons r t=>.cons r (Vals.take n t)
theorem Vals.drop:∀ {xs:List V} {us:List Value} (n:Nat),Vals xs us→Vals (xs.drop n) (us.drop n)
 | _,_,0,r=>r
 | _,_,_+1,.nil=>.nil
 | _,_,n+1,.cons _ t=>Vals.drop n t
def RelO:Option V→Option Value→Prop
 | some v,some u=>RelV v u
 | none,none=>True
 | _,_=>False
def KV {κ:Type}:List (κ × V)→List (κ × Value)→Prop:=Paired fun (p:κ × V) (q:κ × Value)=>p.1 = q.1∧RelV p.2 q.2
def kV:Key→V
 | .inl i=>.int i
 | .inr x=>.str x
inductive HO where
 | lst (xs:List V)
 | tup (xs:List V)
 | dK (kvs:List (Key × V)) | dT (kvs:List (List Key × V))
 | set (S:Int→Bool) (n:Nat)
 | ins (C dx:Addr) (fs:List (Str × V))
 | own (x:Addr)
 | xd (fs:List (Str × V))
 | met (f x:Addr)
 | rng (lo hi:Int)
 | frz (o:Obj) (u:HO)
 | tbl (ps:Array Value)
 | ext (φ:Heap→Prop)
abbrev Hp:=Addr→Option HO
def upd (H:Hp) (a:Addr) (o:HO):Hp:=fun b=>if b = a then some o else H b
theorem upd_same {H:Hp} {a:Addr} {o:HO}:upd H a o a = some o:=by unfold upd;rw [if_pos rfl]
theorem upd_ne {H:Hp} {a b:Addr} {o:HO} (h:b≠a):upd H a o b = H b:=by unfold upd;rw [if_neg h]
theorem ne_of_none {H:Hp} {a b:Addr} {o:HO} (h:H a = some o) (h':H b = none):a≠b:=by
 intro e;subst e;rw [h] at h';cases h'
section
variable (P:Program) (w:World)
def ObjOk (H:Hp) (h:Heap) (a:Addr):HO→Prop
 | .lst xs=>xs.length≤sizeLine∧∃ (its:List Value) (n:Nat),Vals xs its∧h.get? a = some { cls:=.type "list",data:=.seq its.toArray n }
 | .tup xs=>xs.length≤sizeLine∧∃ its:List Value,Vals xs its∧IsTup h a its.toArray
 | .dK kvs=>kvs.length≤sizeLine∧(a == sysModules) = false∧∃ vs,KV kvs vs∧h.DictOf (mixKind P w) a vs
 | .dT kvs=>kvs.length≤sizeLine∧(a == sysModules) = false∧∃ xs:List (List Key × Addr × Value),
    Paired (fun (p:List Key × V) (q:List Key × Addr × Value)=>p.1 = q.1∧H q.2.1 = some (.tup (p.1.map kV))∧RelV p.2 q.2.2) kvs xs ∧
    ∃ o es ep,h.get? a = some o∧o.ExactDict∧o.data = .dict es ep∧es.toList = xs.map (entryOfKey (tupleKind (mixKind P w)))∧(xs.map (·.1)).Nodup
 | .set S n=>h.SetOf (intKind P w) a S n
 | .ins C dx fs=>H dx = some (.own a)∧fs.length≤1000∧dx≠a∧h.get? a = some (PySem.W.instObj C dx) ∧
    ∃ mA,h.Ns1 dx mA∧(∀ f,RelO (fs.lookup f) (mA f))∧PySem.Within mA (fs.map (·.1))
 | .own _=>∃ o,h.get? a = some o
 | .xd fs=>∃ mA,h.Ns1 a mA∧∀ f,RelO (fs.lookup f) (mA f)
 | .rng lo hi=>∃ t u v,h.get? a = some { cls:=.type "range",data:=.fields #[.int lo t,.int hi u,.int 1 v] }
 | .frz o u=>h.get? a = some o∧ObjOk H h a u
 | .tbl ps=>h.get? a = some { cls:=.none,data:=.fields ps }
 | .met f x=>h.get? a = some (PySem.W.methodObj (.ref f) (.ref x))
 | .ext φ=>φ h∧(∃ o,h.get? a = some o)∧∀ h1 h2:Heap,φ h1→(∀ o,h1.get? a = some o→h2.get? a = some o)→φ h2
def HOk (H:Hp) (h:Heap):Prop:=∀ a o,H a = some o→ObjOk P w H h a o
end
section
variable {P:Program} {w:World} {H H':Hp} {h h':Heap} {a:Addr} {o:HO}
theorem ObjOk.lt (x:ObjOk P w H h a o):a < h.objs.size:=by
 cases o with
 | lst xs=>obtain ⟨_,_,_,_,e⟩:=x;exact Heap.lt_size e
 | tup xs=>obtain ⟨_,_,_,p⟩:=x;exact p.lt
 | dK kvs=>obtain ⟨_,_,_,_,o,_,_,e,_⟩:=x;exact Heap.lt_size e
 | dT kvs=>obtain ⟨_,_,_,_,o,_,_,e,_⟩:=x;exact Heap.lt_size e
 | set S n=>obtain ⟨o,_,_,_,e,_⟩:=x;exact Heap.lt_size e
 | ins C dx fs=>obtain ⟨_,_,_,e,_⟩:=x;exact Heap.lt_size e
 | own y=>obtain ⟨_,e⟩:=x;exact Heap.lt_size e
 | xd fs=>obtain ⟨_,⟨_,_,_,e,_⟩,_⟩:=x;exact Heap.lt_size e
 | rng lo hi=>obtain ⟨_,_,_,e⟩:=x;exact Heap.lt_size e
 | frz ob u=>obtain ⟨e,_⟩:=x;exact Heap.lt_size e
 | tbl ps=>exact Heap.lt_size (show h.get? a = some _ from x)
 | met f y=>exact Heap.lt_size (show h.get? a = some _ from x)
 | ext φ=>obtain ⟨_,⟨_,e⟩,_⟩:=x;exact Heap.lt_size e
theorem Paired.mapP {α β:Type} {F G:α→β→Prop}:∀ {l₁:List α} {l₂:List β},Paired F l₁ l₂→(∀ a b,F a b→G a b)→Paired G l₁ l₂
 | _,_,.nil,_=>.nil
 | _,_,.cons r t,f=>.cons (f _ _ r) (Paired.mapP t f)
theorem ObjOk.stay (x:ObjOk P w H h a o) (k:∀ b u,(b = a∨H b = some (.own a))→h.get? b = some u→h'.get? b = some u)
 (ho:∀ b,H b = some (.own a)→H' b = some (.own a)) (ht:∀ b xs,H b = some (.tup xs)→H' b = some (.tup xs)):ObjOk P w H' h' a o:=by
 induction o with
 | lst xs=>obtain ⟨z,its,n,r,e⟩:=x;exact ⟨z,its,n,r,k _ _ (.inl rfl) e⟩
 | tup xs=>obtain ⟨z,its,r,ob,e,c⟩:=x;exact ⟨z,its,r,ob,k _ _ (.inl rfl) e,c⟩
 | dK kvs=>obtain ⟨z,y,vs,r,ob,es,ep,e,c⟩:=x;exact ⟨z,y,vs,r,ob,es,ep,k _ _ (.inl rfl) e,c⟩
 | dT kvs =>
   obtain ⟨z,y,xs,r,ob,es,ep,e,c⟩:=x
   exact ⟨z,y,xs,Paired.mapP r fun p q z=>⟨z.1,ht _ _ z.2.1,z.2.2⟩,ob,es,ep,k _ _ (.inl rfl) e,c⟩
 | set S n=>obtain ⟨ob,es,ep,t,e,c⟩:=x;exact ⟨ob,es,ep,t,k _ _ (.inl rfl) e,c⟩
 | ins C dx fs =>
   obtain ⟨d,z,ne,e,mA,⟨od,es,ep,e2,c⟩,r⟩:=x
   exact ⟨ho _ d,z,ne,k _ _ (.inl rfl) e,mA,⟨od,es,ep,k _ _ (.inr d) e2,c⟩,r⟩
 | own y=>obtain ⟨ob,e⟩:=x;exact ⟨ob,k _ _ (.inl rfl) e⟩
 | xd fs=>obtain ⟨mA,⟨od,es,ep,e,c⟩,r⟩:=x;exact ⟨mA,⟨od,es,ep,k _ _ (.inl rfl) e,c⟩,r⟩
 | rng lo hi=>obtain ⟨t,u,v,e⟩:=x;exact ⟨t,u,v,k _ _ (.inl rfl) e⟩
 | frz ob u ih=>obtain ⟨e,q⟩:=x;exact ⟨k _ _ (.inl rfl) e,ih q⟩
 | tbl ps =>
   have e:h.get? a = some { cls:=.none,data:=.fields ps }:=x
   show h'.get? a = some { cls:=.none,data:=.fields ps }
   exact k a _ (.inl rfl) e
 | met f y =>
   have e:h.get? a = some (PySem.W.methodObj (.ref f) (.ref y)):=x
   show h'.get? a = some (PySem.W.methodObj (.ref f) (.ref y))
   exact k a _ (.inl rfl) e
 | ext φ=>obtain ⟨p,⟨o,e⟩,st⟩:=x;exact ⟨st _ _ p fun o q=>k _ _ (.inl rfl) q,⟨o,k _ _ (.inl rfl) e⟩,st⟩
theorem HOk.lt (x:HOk P w H h) (e:H a = some o):a < h.objs.size:=(x a o e).lt
theorem HOk.fresh (x:HOk P w H h) (e:h.objs.size≤a):H a = none:=by
 cases q:H a with
 | none=>rfl
 | some u=>exact absurd (Nat.lt_of_lt_of_le (x.lt q) e) (Nat.lt_irrefl _)
theorem HOk.kept (x:HOk P w H h) (k:∀ b u,h.get? b = some u→h'.get? b = some u):HOk P w H h':=fun a o e =>
 (x a o e).stay (fun b u _ q=>k b u q) (fun _ q=>q) fun _ _ q=>q
theorem HOk.laid (x:HOk P w H h) (k:∀ b u,h.get? b = some u→h'.get? b = some u) (hp:h.objs.size≤a) (new:ObjOk P w (upd H a o) h' a o):HOk P w (upd H a o) h':=fun b u e=>by
 have hn:=x.fresh hp
 by_cases hb:b = a
 · subst hb;rw [upd_same] at e;cases e;exact new
 · rw [upd_ne hb] at e
   exact (x b u e).stay (fun c v _ q=>k c v q) (fun c q=>by rw [upd_ne (ne_of_none q hn)];exact q) fun c xs q=>by rw [upd_ne (ne_of_none q hn)];exact q
end
def Rd (H:Hp) (a:Addr) (u:HO):Prop:=H a = some u∨∃ o,H a = some (.frz o u)
theorem Rd.ok {P:Program} {w:World} {H:Hp} {h:Heap} {a:Addr} {u:HO} (r:Rd H a u) (x:HOk P w H h):ObjOk P w H h a u:=by
 rcases r with r | ⟨o,r⟩
 · exact x a u r
 · obtain ⟨_,q⟩:=x a _ r
   exact q
def Mut:Option HO→Prop
 | some (.lst _)=>True
 | some (.dK _)=>True
 | some (.dT _)=>True
 | some (.set _ _)=>True
 | some (.ins _ _ _)=>True
 | some (.ext _)=>True
 | _=>False
section
variable {P:Program} {w:World} {H:Hp} {h h':Heap} {x e:Addr} {o':HO}
theorem HOk.write (ok:HOk P w H h) (mu:Mut (H x)) (he:e = x∨H e = some (.own x)) (k:∀ b u,b≠e→h.get? b = some u→h'.get? b = some u) (heo:∃ u,h'.get? e = some u)
 (new:ObjOk P w (upd H x o') h' x o'):HOk P w (upd H x o') h':=fun b u q=>by
 have nown:∀ c y,H c = some (.own y)→c≠x:=fun c y r z=>by subst z;rw [r] at mu;exact mu
 have ntup:∀ c xs,H c = some (.tup xs)→c≠x:=fun c xs r z=>by subst z;rw [r] at mu;exact mu
 by_cases hb:b = x
 · subst hb;rw [upd_same] at q;cases q;exact new
 · rw [upd_ne hb] at q
   by_cases hbe:b = e
   · have q':H b = some (.own x):=by
      rcases he with z | z
      · exact absurd (hbe.trans z) hb
      · rw [hbe];exact z
     rw [q] at q';cases q'
     obtain ⟨v,hv⟩:=heo
     exact ⟨v,by rw [hbe];exact hv⟩
   · refine (ok b u q).stay (fun c v hc r=>k c v ?_ r) (fun c r=>by rw [upd_ne (nown c b r)];exact r) fun c xs r=>by rw [upd_ne (ntup c xs r)];exact r
     rcases hc with rfl | hc
     · exact hbe
     · rintro rfl
       rcases he with z | z
       · exact nown c b hc z
       · rw [hc] at z;cases z;exact hb rfl
end
structure Un (fs ex:List Addr) (H H':Hp) (h h':Heap):Prop where
 keep:∀ b o,h.get? b = some o→H b = none→b∉fs→b∉ex→h'.get? b = some o
 slot:∀ b o,h.get? b = some o→H b = none→b∈fs→b∉ex→∃ sl,h'.get? b = some { o with slots:=sl }
 free:∀ b o,h.get? b = some o→H b = none→b∉ex→H' b = none
 there:∀ b o,h.get? b = some o→b∉ex→∃ o',h'.get? b = some o'
 tups:∀ b xs,H b = some (.tup xs)→H' b = some (.tup xs)
 frzs:∀ b o u,H b = some (.frz o u)→H' b = some (.frz o u)
 tbls:∀ b ps,H b = some (.tbl ps)→∃ more,H' b = some (.tbl (ps++more))
section
variable {fs fs' ex ex':List Addr} {H H1 H2:Hp} {h h1 h2 h':Heap} {a x e:Addr} {o:HO}
theorem Un.any (u:Un fs ex H H1 h h1) {b:Addr} {ob:Obj} (q:h.get? b = some ob) (n:H b = none) (hx:b∉ex):∃ sl,h1.get? b = some { ob with slots:=sl }:=by
 by_cases hb:b∈fs
 · exact u.slot b ob q n hb hx
 · exact ⟨ob.slots,u.keep b ob q n hb hx⟩
theorem Un.kept (k:∀ b u,h.get? b = some u→h'.get? b = some u):Un fs ex H H h h' :=
 ⟨fun b ob q _ _ _=>k b ob q,fun b ob q _ _ _=>⟨ob.slots,k b ob q⟩,fun _ _ _ n _=>n,fun b ob q _=>⟨ob,k b ob q⟩,fun _ _ q=>q,fun _ _ _ q=>q,fun _ ps q=>⟨#[],by rw [q];simp⟩⟩
theorem Un.refl:Un fs ex H H h h:=Un.kept fun _ _ q=>q
theorem Un.laid (k:∀ b u,h.get? b = some u→h'.get? b = some u) (hp:h.objs.size≤a) (hn:H a = none):Un fs ex H (upd H a o) h h' where
 keep:=fun b u q _ _ _=>k b u q
 slot:=fun b u q _ _ _=>⟨u.slots,k b u q⟩
 free:=fun b u q n _=>by rw [upd_ne (Nat.ne_of_lt (Nat.lt_of_lt_of_le (Heap.lt_size q) hp))];exact n
 there:=fun b u q _=>⟨u,k b u q⟩
 tups:=fun b xs q=>by rw [upd_ne (ne_of_none q hn)];exact q
 frzs:=fun b u xs q=>by rw [upd_ne (ne_of_none q hn)];exact q
 tbls:=fun b ps q=>⟨#[],by rw [upd_ne (ne_of_none q hn),q];simp⟩
theorem Un.write (mu:Mut (H x)) (he:e = x∨H e = some (.own x)) (k:∀ b u,b≠e→h.get? b = some u→h'.get? b = some u) (heo:∃ u,h'.get? e = some u):Un fs ex H (upd H x o) h h':=by
 have hx:∀ b,H b = none→b≠x:=fun b n z=>by subst z;rw [n] at mu;exact mu
 have hb:∀ b,H b = none→b≠e:=fun b n z=>by
  subst z
  rcases he with r | r
  · exact hx b n r
  · rw [n] at r;cases r
 have hm:∀ b u,H b = some u→¬ Mut (some u)→b≠x:=fun b u q nm z=>by subst z;rw [q] at mu;exact nm mu
 refine ⟨fun b u q n _ _=>k b u (hb b n) q,fun b u q n _ _=>⟨u.slots,k b u (hb b n) q⟩,fun b u q n _=>by rw [upd_ne (hx b n)];exact n,fun b u q _=>?_,
  fun b xs q=>by rw [upd_ne (hm b _ q fun z=>z)];exact q,fun b u xs q=>by rw [upd_ne (hm b _ q fun z=>z)];exact q,fun b ps q=>⟨#[],by rw [upd_ne (hm b _ q fun z=>z),q];simp⟩⟩
 by_cases hbe:b = e
 · subst hbe;exact heo
 · exact ⟨u,k b u hbe q⟩
end
def trk (h:Heap) (H:Hp):List Addr:=(List.range h.objs.size).filter fun a=>(H a).isSome
def hidT (h:Heap) (H:Hp):Heap:=PySem.W.hideAll h (trk h H)
theorem hidT_size (h:Heap) (H:Hp):(hidT h H).objs.size = h.objs.size:=PySem.W.hideAll_size _ _
theorem hidT_get {h:Heap} {H:Hp} {b:Addr} {o:Obj} (e:h.get? b = some o) (n:H b = none):(hidT h H).get? b = some o :=
 PySem.W.hideAll_get _ e fun hm=>by
  have q:(H b).isSome = true:=(List.mem_filter.mp hm).2
  rw [n] at q;simp at q
theorem of_hidT {h:Heap} {H:Hp} {b:Addr} {o:Obj} (e:(hidT h H).get? b = some o):h.get? b = some o∧H b = none:=by
 have e':h.get? b = some o:=PySem.W.of_hideAll (trk h H) e
 refine ⟨e',?_⟩
 cases q:H b with
 | none=>rfl
 | some x =>
   have hm:b∈trk h H:=List.mem_filter.mpr ⟨List.mem_range.mpr (Heap.lt_size e'),by simp [q]⟩
   have z:(hidT h H).get? b = none:=PySem.W.hideAll_none (trk h H) hm
   rw [z] at e;cases e
end L2
namespace L2
open PySem PySem.Spec PyProof.Rows
structure Mod (K:PySem.W.Frag) (mg:Str→Option Value) (base:Heap):Prop where
 kin:K.In base
 glob:base.Ns mainGlobals mg
 blt:∃ mb,base.Ns builtinsNs mb∧∀ x:Str,x≠"__name__"→mb x = bootBuiltins x
 nolimit:base.NoLimit
structure Cx where
 prog:Program
 w:World
 K:PySem.W.Frag
 mg:Str→Option Value
 base:Heap
 A:Around
 N:List Str
 s₀:Shared
 H₀:Hp
 env:Env
 outer:List Env
 stack:List Env
 ex:List Addr
 fn:Str→Bool
 calm:Bool
 pn:List (Addr × Obj)
 xe:Value→Shared→Prop
def frs (l:List Env):List Addr:=l.filterMap (·.frame)
abbrev Cx.fs (X:Cx):List Addr:=frs X.outer
def Vis (sc:Scope) (x:Str):Prop:=sc.names.lookup x = some .local∨sc.names.lookup x = some .cell∨sc.names.lookup x = some .free
def Loc (sc:Scope) (x:Str):Prop:=sc.names.lookup x = some .local∨sc.names.lookup x = some .cell
def Look (env:Env) (h:Heap) (m:Str→Option Value) (x:Str) (u:Value):Prop :=
 (env.kindOf x = some .local∧m x = some u)∨((env.kindOf x = some .cell∨env.kindOf x = some .free)∧∃ c,env.cells.lookup x = some c∧h.IsCell c (some u))
structure Cx.Ok (X:Cx):Prop where
 mod:Mod X.K X.mg X.base
 kind:X.env.scope.kind = .function
 glob:X.env.globals = mainGlobals
 blt:X.env.builtins = builtinsNs
 above:X.s₀.heap.objs.size≤X.env.locals
 inj:∀ x y c,X.env.cells.lookup x = some c→X.env.cells.lookup y = some c→x = y
 has:∀ x,(X.env.kindOf x = some .cell∨X.env.kindOf x = some .free)→∃ c,X.env.cells.lookup x = some c
 cab:∀ x c,X.fn x = true→X.env.cells.lookup x = some c→X.s₀.heap.objs.size≤c
 hd:X.calm = true→X.A.handled = none
 frames:X.A.frames = some X.stack
 stk:X.stack = X.outer∨(X.stack = X.env::X.outer∧X.env.frame = some X.env.locals)
 exf:∀ b∈X.ex,b≠X.env.locals∧∀ x c,X.env.cells.lookup x = some c→c≠b
 bs:∀ b o,X.base.get? b = some o→X.s₀.heap.get? b = some o∧X.H₀ b = none
 bsz:X.base.objs.size≤X.s₀.heap.objs.size
 noex:∀ b o,X.base.get? b = some o→b∉X.ex
 exfs:∀ b∈X.ex,b∉X.fs
 funs:X.s₀.heap.FunFrames X.base X.outer
 frf:∀ b∈X.fs,X.H₀ b = none
structure Inv (X:Cx) (pins:List (Addr × Obj)) (σ:List (Option V)) (H:Hp) (s:Shared):Prop where
 ok:X.Ok
 os:s.os = X.s₀.os
 bare:AllBare s.gens
 base:Un X.fs X.ex X.H₀ H X.s₀.heap s.heap
 loc:∃ m,s.heap.Ns X.env.locals m∧∀ (i:Nat) (x:Str) (v:V),X.N[i]? = some x→σ[i]? = some (some v)→Vis X.env.scope x→∃ u,RelV v u∧Look X.env s.heap m x u
 cell:∀ x c,X.env.cells.lookup x = some c→∃ v,s.heap.IsCell c v
 free:H X.env.locals = none
 freeC:∀ x c,X.env.cells.lookup x = some c→H c = none
 pin:∀ p∈X.pn++pins,s.heap.get? p.1 = some p.2∧H p.1 = none∧p.1≠X.env.locals∧p.1∉X.fs∧∀ v,p.2.data≠.cell v
 hok:HOk X.prog X.w H s.heap
 len:σ.length = X.N.length
section
variable {X:Cx} {pins:List (Addr × Obj)} {σ:List (Option V)} {H H':Hp} {s:Shared} {h':Heap}
theorem Cx.Ok.nofr (ok:X.Ok) {b:Addr} {o:Obj} (e:X.base.get? b = some o):b∉X.fs:=fun hb=>by
 have:=(ok.funs.mem hb).1
 rw [e] at this;cases this
theorem Inv.bs (I:Inv X pins σ H s):∀ b o,X.base.get? b = some o→s.heap.get? b = some o∧H b = none:=fun b o e =>
 ⟨I.base.keep b o (I.ok.bs b o e).1 (I.ok.bs b o e).2 (I.ok.nofr e) (I.ok.noex b o e),I.base.free b o (I.ok.bs b o e).1 (I.ok.bs b o e).2 (I.ok.noex b o e)⟩
theorem Inv.bk (I:Inv X pins σ H s):∀ b o,X.base.get? b = some o→s.heap.get? b = some o:=fun b o e=>(I.bs b o e).1
theorem Inv.mod (I:Inv X pins σ H s):Mod X.K X.mg X.base:=I.ok.mod
theorem Inv.kIn (I:Inv X pins σ H s):X.K.In s.heap:=I.ok.mod.kin.keeps I.bk
theorem Inv.lt (I:Inv X pins σ H s):X.env.locals < s.heap.objs.size:=let ⟨_,hn,_⟩:=I.loc;hn.lt
theorem Inv.sz (I:Inv X pins σ H s):X.s₀.heap.objs.size≤s.heap.objs.size:=Nat.le_trans I.ok.above (Nat.le_of_lt I.lt)
theorem Inv.nofs (I:Inv X pins σ H s) {a:Addr} (h:s.heap.objs.size≤a):a∉X.fs:=fun hb=>by
 obtain ⟨_,o,ho,_⟩:=I.ok.funs.mem hb
 exact absurd (Nat.lt_of_lt_of_le (Heap.lt_size ho) (Nat.le_trans I.sz h)) (Nat.lt_irrefl _)
theorem Inv.cne (I:Inv X pins σ H s):∀ x c,X.env.cells.lookup x = some c→c≠X.env.locals:=fun x c e z=>by
 obtain ⟨v,o,ho,hd⟩:=I.cell x c e
 obtain ⟨m,⟨o',es,ep,ho',hd',_⟩,_⟩:=I.loc
 rw [z,ho'] at ho;cases ho;rw [hd'] at hd;cases hd
theorem Inv.funs (I:Inv X pins σ H s):s.heap.FunFrames X.base X.outer:=by
 have all:∀ (l:List Env),(∀ b∈frs l,b∈X.fs)→X.s₀.heap.FunFrames X.base l→s.heap.FunFrames X.base l:=by
  intro l
  induction l with
  | nil=>intro _ _;trivial
  | cons env r ih =>
    intro hs hl
    obtain ⟨hk,⟨L,o,hf,hn,ho,hd⟩,hr⟩:=hl
    have hL:L∈X.fs:=hs L (by unfold frs;rw [List.filterMap_cons,hf];exact List.mem_cons_self)
    obtain ⟨sl,e⟩:=I.base.slot L o ho (I.ok.frf L hL) hL fun z=>I.ok.exfs L z hL
    exact ⟨hk,⟨L,_,hf,hn,e,hd⟩,ih (fun b hb=>hs b (by unfold frs;rw [List.filterMap_cons,hf];exact List.mem_cons_of_mem _ hb)) hr⟩
 exact all X.outer (fun _ hb=>hb) I.ok.funs
theorem Inv.stack (I:Inv X pins σ H s):s.heap.FunFrames X.base X.stack:=by
 rcases I.ok.stk with e | ⟨e,hf⟩
 · rw [e];exact I.funs
 · rw [e]
   obtain ⟨m,hn,_⟩:=I.loc
   refine .cons (by rw [I.ok.kind];decide) hf hn ?_ I.funs
   exact Heap.get?_none_of_le (Nat.le_trans I.ok.bsz I.ok.above)
theorem Inv.stkSub (I:Inv X pins σ H s):∀ b∈frs X.stack,b∈X.env.locals::X.fs:=fun b hb=>by
 rcases I.ok.stk with e | ⟨e,hf⟩
 · rw [e] at hb;exact List.mem_cons_of_mem _ hb
 · rw [e] at hb
   unfold frs at hb
   rw [List.filterMap_cons,hf] at hb
   exact hb
theorem Inv.stkFree (I:Inv X pins σ H s):∀ b∈frs X.stack,H b = none:=fun b hb=>by
 rcases List.mem_cons.mp (I.stkSub b hb) with e | hb
 · rw [e];exact I.free
 · obtain ⟨_,o,ho,_⟩:=I.ok.funs.mem hb
   exact I.base.free b o ho (I.ok.frf b hb) fun z=>I.ok.exfs b z hb
theorem Inv.step {g':Array GenState} {t':Nat} {d':Drawn} {ch:List Addr} (I:Inv X pins σ H s)
 (hch:∀ b∈ch,(b∈X.ex∨X.s₀.heap.objs.size≤b)∧b≠X.env.locals∧(∀ x c,X.env.cells.lookup x = some c→c≠b)∧∀ p∈X.pn++pins,p.1≠b)
 (keep:∀ b o,b≠X.env.locals→b∉X.fs→b∉ch→s.heap.get? b = some o→H b = none→h'.get? b = some o)
 (slot:∀ b o,b≠X.env.locals→b∈X.fs→b∉ch→s.heap.get? b = some o→H b = none→∃ sl,h'.get? b = some { o with slots:=sl }) (free:∀ b o,b∉ch→s.heap.get? b = some o→H b = none→H' b = none)
 (there:∀ b o,b∉ch→s.heap.get? b = some o→∃ o',h'.get? b = some o')
 (tups:∀ b xs,H b = some (.tup xs)→H' b = some (.tup xs)) (frzs:∀ b o u,H b = some (.frz o u)→H' b = some (.frz o u)) (tbls:∀ b ps,H b = some (.tbl ps)→∃ more,H' b = some (.tbl (ps++more)))
 (ns:∀ m,s.heap.Ns X.env.locals m→h'.Ns X.env.locals m) (hok:HOk X.prog X.w H' h') (hg:AllBare g') :
 Inv X pins σ H' { s with heap:=h',gens:=g',drawn:=d',toks:=t' }:=by
 have neL:∀ b o,X.s₀.heap.get? b = some o→b≠X.env.locals:=fun b o e=>Nat.ne_of_lt (Nat.lt_of_lt_of_le (Heap.lt_size e) I.ok.above)
 have neC:∀ b o,X.s₀.heap.get? b = some o→b∉X.ex→b∉ch:=fun b o e hx hb=>by
  rcases (hch b hb).1 with z | z
  · exact hx z
  · exact absurd (Nat.lt_of_lt_of_le (Heap.lt_size e) z) (Nat.lt_irrefl _)
 have cellK:∀ x c,X.env.cells.lookup x = some c→∀ v,s.heap.IsCell c v→h'.IsCell c v:=fun x c e v ⟨o,ho,hd⟩=>by
  have nch:c∉ch:=fun z=>(hch c z).2.2.1 x c e rfl
  by_cases hc:c∈X.fs
  · obtain ⟨sl,q⟩:=slot c o (I.cne x c e) hc nch ho (I.freeC x c e)
    exact ⟨_,q,hd⟩
  · exact ⟨o,keep c o (I.cne x c e) hc nch ho (I.freeC x c e),hd⟩
 refine ⟨I.ok,I.os,hg,⟨fun b o e n hb hx=>?_,fun b o e n hb hx=>?_,fun b o e n hx=>?_,fun b o e hx=>?_,fun b xs e=>tups b xs (I.base.tups b xs e),fun b o xs e=>frzs b o xs (I.base.frzs b o xs e),fun b ps e=>?_⟩,?_,fun x c e=>?_,?_,fun x c e=>?_,fun p hp=>?_,hok,I.len⟩
 · exact keep b o (neL b o e) hb (neC b o e hx) (I.base.keep b o e n hb hx) (I.base.free b o e n hx)
 · obtain ⟨sl,e1⟩:=I.base.slot b o e n hb hx
   obtain ⟨sl',e2⟩:=slot b _ (neL b o e) hb (neC b o e hx) e1 (I.base.free b o e n hx)
   exact ⟨sl',e2⟩
 · obtain ⟨o',e1⟩:=I.base.there b o e hx
   exact free b o' (neC b o e hx) e1 (I.base.free b o e n hx)
 · obtain ⟨o',e1⟩:=I.base.there b o e hx
   exact there b o' (neC b o e hx) e1
 · obtain ⟨m1,e1⟩:=I.base.tbls b ps e
   obtain ⟨m2,e2⟩:=tbls b _ e1
   exact ⟨m1++m2,by rw [e2,Array.append_assoc]⟩
 · obtain ⟨m,hn,hl⟩:=I.loc
   refine ⟨m,ns m hn,fun i x v e1 e2 e3=>?_⟩
   obtain ⟨u,r,l⟩:=hl i x v e1 e2 e3
   refine ⟨u,r,?_⟩
   rcases l with l | ⟨k,c,e,z⟩
   · exact .inl l
   · exact .inr ⟨k,c,e,cellK x c e _ z⟩
 · obtain ⟨v,z⟩:=I.cell x c e
   exact ⟨v,cellK x c e v z⟩
 · obtain ⟨m,⟨o,_,_,ho,_⟩,_⟩:=I.loc
   exact free _ o (fun z=>(hch _ z).2.1 rfl) ho I.free
 · obtain ⟨v,o,ho,hd⟩:=I.cell x c e
   exact free c o (fun z=>(hch c z).2.2.1 x c e rfl) ho (I.freeC x c e)
 · obtain ⟨e,n,ne,nf,d⟩:=I.pin p hp
   have nch:p.1∉ch:=fun z=>(hch p.1 z).2.2.2 p hp rfl
   exact ⟨keep p.1 p.2 ne nf nch e n,free p.1 p.2 nch e n,ne,nf,d⟩
theorem Inv.un {t':Nat} (I:Inv X pins σ H s) (u:Un X.fs [] H H' s.heap h') (hok:HOk X.prog X.w H' h'):Inv X pins σ H' { s with heap:=h',toks:=t' }:=by
 obtain ⟨m,⟨o,es,ep,ho,r⟩,_⟩:=id I.loc
 obtain ⟨sl,hL⟩:=u.any ho I.free (by simp)
 exact I.step (g':=s.gens) (d':=s.drawn) (ch:=[]) (fun _ z=>nomatch z) (fun b o _ hb _ e n=>u.keep b o e n hb (by simp)) (fun b o _ hb _ e n=>u.slot b o e n hb (by simp)) (fun b o _ e n=>u.free b o e n (by simp)) (fun b o _ e=>u.there b o e (by simp)) u.tups u.frzs u.tbls (fun m' hm=>by
  obtain ⟨o',es',ep',ho',r'⟩:=hm
  rw [ho] at ho';cases ho'
  exact ⟨_,es',ep',hL,r'⟩) hok I.bare
theorem Inv.call {g':Array GenState} {t':Nat} {d':Drawn} {ch:List Addr} (I:Inv X pins σ H s) (u:Un (frs X.stack) ch H H' s.heap h') (hok:HOk X.prog X.w H' h') (hg:AllBare g')
 (hch:∀ b∈ch,(b∈X.ex∨X.s₀.heap.objs.size≤b)∧b≠X.env.locals∧(∀ x c,X.env.cells.lookup x = some c→c≠b)∧∀ p∈X.pn++pins,p.1≠b) :
 Inv X pins σ H' { s with heap:=h',gens:=g',drawn:=d',toks:=t' }:=by
 obtain ⟨m,⟨o,es,ep,ho,r⟩,_⟩:=id I.loc
 obtain ⟨sl,hL⟩:=u.any ho I.free fun z=>(hch _ z).2.1 rfl
 exact I.step (ch:=ch) hch (fun b o hL hb hc e n=>u.keep b o e n (fun z=>(List.mem_cons.mp (I.stkSub b z)).elim hL hb) hc) (fun b o _ _ hc e n=>u.any e n hc) (fun b o hc e n=>u.free b o e n hc) (fun b o hc e=>u.there b o e hc) u.tups u.frzs u.tbls (fun m' hm=>by
  obtain ⟨o',es',ep',ho',r'⟩:=hm
  rw [ho] at ho';cases ho'
  exact ⟨_,es',ep',hL,r'⟩) hok hg
theorem Inv.turned {t':Nat} {it:Addr} (I:Inv X pins σ H s) (k:∀ b o,b≠it→s.heap.get? b = some o→h'.get? b = some o) (hn:H it = none) (hL:it≠X.env.locals)
 (h1:it∈X.ex∨X.s₀.heap.objs.size≤it) (h2:∀ x c,X.env.cells.lookup x = some c→c≠it) (h3:∀ p∈X.pn++pins,p.1≠it):Inv X pins σ H { s with heap:=h',toks:=t' }:=by
 have nit:∀ b u,H b = some u→b≠it:=fun b u e z=>by rw [z,hn] at e;cases e
 refine I.step (g':=s.gens) (d':=s.drawn) (ch:=[it]) (fun b hb=>?_) (fun b o _ _ hc e _=>k b o (fun z=>hc (by simp [z])) e) (fun b o _ _ hc e _=>⟨o.slots,k b o (fun z=>hc (by simp [z])) e⟩) (fun _ _ _ _ n=>n)
  (fun b o hc e=>⟨o,k b o (fun z=>hc (by simp [z])) e⟩) (fun _ _ e=>e) (fun _ _ _ e=>e) (fun b ps e=>⟨#[],by rw [e];simp⟩) (fun m hm=>?_) (fun b u e=>?_) I.bare
 · have e:b = it:=by simpa using hb
   subst e
   exact ⟨h1,hL,h2,h3⟩
 · obtain ⟨o,es,ep,ho,r⟩:=hm
   exact ⟨o,es,ep,k _ o (Ne.symm hL) ho,r⟩
 · refine (I.hok b u e).stay (fun c v hc q=>k c v ?_ q) (fun _ q=>q) fun _ _ q=>q
   rcases hc with z | z
   · rw [z];exact nit b u e
   · exact nit c _ z
theorem Inv.tok (I:Inv X pins σ H s) (t:Nat):Inv X pins σ H { s with toks:=t }:=I.un (h':=s.heap) (t':=t) Un.refl I.hok
theorem Inv.kept {t':Nat} (I:Inv X pins σ H s) (k:∀ b u,s.heap.get? b = some u→h'.get? b = some u):Inv X pins σ H { s with heap:=h',toks:=t' }:=I.un (Un.kept k) (I.hok.kept k)
theorem Inv.laid {a:Addr} {o:HO} {t':Nat} (I:Inv X pins σ H s) (k:∀ b u,s.heap.get? b = some u→h'.get? b = some u) (hp:s.heap.objs.size≤a) (new:ObjOk X.prog X.w (upd H a o) h' a o) :
 Inv X pins σ (upd H a o) { s with heap:=h',toks:=t' }:=I.un (Un.laid k hp (I.hok.fresh hp)) (I.hok.laid k hp new)
theorem Inv.write {x e:Addr} {o:HO} {t':Nat} (I:Inv X pins σ H s) (mu:Mut (H x)) (he:e = x∨H e = some (.own x)) (k:∀ b u,b≠e→s.heap.get? b = some u→h'.get? b = some u) (heo:∃ u,h'.get? e = some u)
 (new:ObjOk X.prog X.w (upd H x o) h' x o):Inv X pins σ (upd H x o) { s with heap:=h',toks:=t' }:=I.un (Un.write mu he k heo) (I.hok.write mu he k heo new)
theorem Inv.pins_of {pins':List (Addr × Obj)} (I:Inv X pins σ H s) (h:∀ p∈pins',s.heap.get? p.1 = some p.2∧H p.1 = none∧p.1≠X.env.locals∧p.1∉X.fs∧∀ v,p.2.data≠.cell v):Inv X pins' σ H s :=
 ⟨I.ok,I.os,I.bare,I.base,I.loc,I.cell,I.free,I.freeC,fun p hp=>(List.mem_append.mp hp).elim (fun z=>I.pin p (List.mem_append_left _ z)) (h p),I.hok,I.len⟩
theorem nodup_ix {N:List Str} (hN:N.Nodup) {i j:Nat} {x:Str} (a:N[i]? = some x) (b:N[j]? = some x):i = j:=by
 obtain ⟨h1,e1⟩:=List.getElem?_eq_some_iff.mp a
 obtain ⟨h2,e2⟩:=List.getElem?_eq_some_iff.mp b
 exact (List.getElem_inj hN).mp (e1.trans e2.symm)
theorem store_ok2 {M:Model} {A:Around} {E:Value→Shared→Prop} {i:Nat} {x:Str} {v:V} {u:Value} {Q:Unit→Shared→Prop} (I:Inv X pins σ H s) (hN:X.N.Nodup) (hi:X.N[i]? = some x) (hx:Loc X.env.scope x) (r:RelV v u)
 (h:∀ s',Inv X pins (σ.set i (some v)) H s'→(∃ a,Heap.SameBut a s.heap s'.heap∧(a = X.env.locals∨X.env.cells.lookup x = some a))→Q () s') (hf:X.fn x = true∨X.env.scope.names.lookup x = some .local:=by first | exact .inl rfl | exact .inr rfl | assumption):wpAny M A (storeName X.env x u) Q E s:=by
 obtain ⟨m,hn,hl⟩:=id I.loc
 have hcls:(X.env.scope.kind == .class || (X.env.scope.kind == .module && X.env.locals != X.env.globals)) = false:=by rw [I.ok.kind];rfl
 have hiσ:i < σ.length:=by rw [I.len];exact (List.getElem?_eq_some_iff.mp hi).1
 have cne:=I.cne
 have tracked:∀ {a:Addr} {h':Heap},(∃ o,s.heap.get? a = some o∧H a = none)→Heap.SameBut a s.heap h'→HOk X.prog X.w H h':=fun {a h'} ha hs b ob e=>by
  obtain ⟨_,_,hfree⟩:=ha
  refine (I.hok b ob e).stay (fun c w' hc q=>(hs.2 c ?_).trans q) (fun _ q=>q) fun _ _ q=>q
  rintro rfl
  rcases hc with rfl | hc
  · rw [hfree] at e;cases e
  · rw [hfree] at hc;cases hc
 rcases hx with hk | hk
 · refine wpAny_storeName_local hk hn (fun h' hn' hs=>?_) hcls
   obtain ⟨oL,_,_,hoL,_⟩:=id hn
   refine h _ ⟨I.ok,I.os,I.bare,⟨fun b o e n hb hx=>?_,fun b o e n hb hx=>?_,I.base.free,fun b o e hx=>?_,I.base.tups,I.base.frzs,I.base.tbls⟩,⟨_,hn',fun j y v' e1 e2 e3=>?_⟩,fun y c e=>?_,I.free,I.freeC,fun p hp=>?_,tracked ⟨oL,hoL,I.free⟩ hs,by simpa using I.len⟩ ⟨_,hs,.inl rfl⟩
   · exact (hs.2 b (Nat.ne_of_lt (Nat.lt_of_lt_of_le (Heap.lt_size e) I.ok.above))).trans (I.base.keep b o e n hb hx)
   · obtain ⟨sl,e1⟩:=I.base.slot b o e n hb hx
     exact ⟨sl,(hs.2 b (Nat.ne_of_lt (Nat.lt_of_lt_of_le (Heap.lt_size e) I.ok.above))).trans e1⟩
   · obtain ⟨o',e1⟩:=I.base.there b o e hx
     exact ⟨o',(hs.2 b (Nat.ne_of_lt (Nat.lt_of_lt_of_le (Heap.lt_size e) I.ok.above))).trans e1⟩
   · by_cases hj:j = i
     · subst hj
       rw [hi] at e1;cases e1
       rw [List.getElem?_set_self hiσ] at e2
       cases e2
       exact ⟨u,r,.inl ⟨hk,by simp⟩⟩
     · rw [List.getElem?_set_ne (Ne.symm hj)] at e2
       obtain ⟨u',r',q⟩:=hl j y v' e1 e2 e3
       refine ⟨u',r',?_⟩
       rcases q with ⟨k,e⟩ | ⟨k,c,e,z⟩
       · refine .inl ⟨k,?_⟩
         have:y≠x:=fun e=>hj (nodup_ix hN e1 (e▸hi))
         simp [this,e]
       · exact .inr ⟨k,c,e,z.sameBut hs (cne y c e)⟩
   · obtain ⟨w',z⟩:=I.cell y c e
     exact ⟨w',z.sameBut hs (cne y c e)⟩
   · obtain ⟨e,n,ne,nf,d⟩:=I.pin p hp
     exact ⟨(hs.2 p.1 ne).trans e,n,ne,nf,d⟩
 · have hfn:X.fn x = true:=by
    rcases hf with z | z
    · exact z
    · rw [z] at hk;cases hk
   obtain ⟨c,hc⟩:=I.ok.has x (.inl hk)
   obtain ⟨w',z⟩:=I.cell x c hc
   refine wpAny_storeName_cell I.ok.kind hk hc z (fun h' hc' hs=>?_)
   obtain ⟨oc,hoc,hocd⟩:=id z
   refine h { s with heap:=h' } ⟨I.ok,I.os,I.bare,⟨fun b o e n hb hx=>?_,fun b o e n hb hx=>?_,I.base.free,fun b o e hx=>?_,I.base.tups,I.base.frzs,I.base.tbls⟩,⟨m,hn.sameBut hs (Ne.symm (cne x c hc)),fun j y v' e1 e2 e3=>?_⟩,fun y c' e=>?_,I.free,I.freeC,fun p hp=>?_,tracked ⟨oc,hoc,I.freeC x c hc⟩ hs,by simpa using I.len⟩ ⟨c,hs,.inr hc⟩
   · exact (hs.2 b (Nat.ne_of_lt (Nat.lt_of_lt_of_le (Heap.lt_size e) (I.ok.cab x c hfn hc)))).trans (I.base.keep b o e n hb hx)
   · obtain ⟨sl,e1⟩:=I.base.slot b o e n hb hx
     exact ⟨sl,(hs.2 b (Nat.ne_of_lt (Nat.lt_of_lt_of_le (Heap.lt_size e) (I.ok.cab x c hfn hc)))).trans e1⟩
   · obtain ⟨o',e1⟩:=I.base.there b o e hx
     exact ⟨o',(hs.2 b (Nat.ne_of_lt (Nat.lt_of_lt_of_le (Heap.lt_size e) (I.ok.cab x c hfn hc)))).trans e1⟩
   · by_cases hj:j = i
     · subst hj
       rw [hi] at e1;cases e1
       rw [List.getElem?_set_self hiσ] at e2
       cases e2
       exact ⟨u,r,.inr ⟨.inl hk,c,hc,hc'⟩⟩
     · rw [List.getElem?_set_ne (Ne.symm hj)] at e2
       obtain ⟨u',r',q⟩:=hl j y v' e1 e2 e3
       refine ⟨u',r',?_⟩
       rcases q with q | ⟨k,c',e,z'⟩
       · exact .inl q
       · refine .inr ⟨k,c',e,z'.sameBut hs ?_⟩
         rintro rfl
         exact hj (nodup_ix hN e1 (I.ok.inj _ _ _ e hc▸hi))
   · by_cases hcc:c' = c
     · subst hcc;exact ⟨_,hc'⟩
     · obtain ⟨w2,z2⟩:=I.cell y c' e
       exact ⟨w2,z2.sameBut hs hcc⟩
   · obtain ⟨e,n,ne,nf,d⟩:=I.pin p hp
     refine ⟨(hs.2 p.1 ?_).trans e,n,ne,nf,d⟩
     intro q
     rw [q,hoc] at e
     have q':oc = p.2:=Option.some.inj e
     exact d w' (by rw [← q'];exact hocd)
theorem store_ok {M:Model} {A:Around} {E:Value→Shared→Prop} {i:Nat} {x:Str} {v:V} {u:Value} {Q:Unit→Shared→Prop} (I:Inv X pins σ H s) (hN:X.N.Nodup) (hi:X.N[i]? = some x) (hx:Loc X.env.scope x) (r:RelV v u)
 (h:∀ s',Inv X pins (σ.set i (some v)) H s'→Q () s') (hf:X.fn x = true∨X.env.scope.names.lookup x = some .local:=by first | exact .inl rfl | exact .inr rfl | assumption):wpAny M A (storeName X.env x u) Q E s :=
 store_ok2 I hN hi hx r (fun s' I' _=>h s' I') hf
theorem Inv.call' {s':Shared} {ch:List Addr} (I:Inv X pins σ H s) (ho:s'.os = s.os) (u:Un (frs X.stack) ch H H' s.heap s'.heap) (hok:HOk X.prog X.w H' s'.heap) (hg:AllBare s'.gens)
 (hch:∀ b∈ch,(b∈X.ex∨X.s₀.heap.objs.size≤b)∧b≠X.env.locals∧(∀ x c,X.env.cells.lookup x = some c→c≠b)∧∀ p∈X.pn++pins,p.1≠b):Inv X pins σ H' s':=by
 obtain ⟨h',g',d',t',o'⟩:=s'
 have e:o' = s.os:=ho
 subst e
 exact I.call (g':=g') (t':=t') (d':=d') u hok hg hch
end
abbrev XK:=Value→Option Addr→Hp→Prop
abbrev St:=List (Option V)
abbrev VK:=V→Hp→Prop
abbrev TE:=St→Hp→VK→Prop
abbrev TT:=St→Hp→(Bool→Hp→Prop)→Prop
abbrev TA:=St→Hp→(List V→Hp→Prop)→Prop
structure Ends where
 nx:St→Hp→Prop
 rt:VK
 bk:St→Hp→Prop:=fun _ _=>False
 ct:St→Hp→Prop:=fun _ _=>False
abbrev TS:=Ends→St→Hp→Prop
def EP (X:Cx) (pins:List (Addr × Obj)) (σ:St) (Q:VK) (u:Value) (s':Shared):Prop:=∃ v H',Inv X pins σ H' s'∧RelV v u∧Q v H'
def TP (X:Cx) (pins:List (Addr × Obj)) (σ:St) (Q:Bool→Hp→Prop) (b:Bool) (s':Shared):Prop:=∃ H',Inv X pins σ H' s'∧Q b H'
def AP (X:Cx) (pins:List (Addr × Obj)) (σ:St) (Q:List V→Hp→Prop) (us:List Value) (s':Shared):Prop:=∃ vs H',Inv X pins σ H' s'∧Vals vs us∧Q vs H'
def SP (X:Cx) (pins:List (Addr × Obj)) (D:Ends) (f:Flow) (s':Shared):Prop :=
 match f with
 | .next=>∃ σ' H',Inv X pins σ' H' s'∧D.nx σ' H'
 | .brk=>∃ σ' H',Inv X pins σ' H' s'∧D.bk σ' H'
 | .cont=>∃ σ' H',Inv X pins σ' H' s'∧D.ct σ' H'
 | .ret u=>∃ v σ' H',Inv X pins σ' H' s'∧RelV v u∧D.rt v H'
def PE (X:Cx) (e:Expr) (t:TE):Prop :=
 ∀ (pins:List (Addr × Obj)) (s:Shared) (σ:St) (H:Hp) (Q:VK),Inv X pins σ H s→t σ H Q→wpAny (model X.prog X.w) X.A (eval e X.env) (EP X pins σ Q) X.xe s
def PT (X:Cx) (e:Expr) (t:TT):Prop :=
 ∀ (pins:List (Addr × Obj)) (s:Shared) (σ:St) (H:Hp) (Q:Bool→Hp→Prop),Inv X pins σ H s→t σ H Q→wpAny (model X.prog X.w) X.A (isTrue e X.env (eval e X.env)) (TP X pins σ Q) X.xe s
def PW (X:Cx) (e:Expr) (t:TT):Prop :=
 ∀ (whole:Sem Value) (pins:List (Addr × Obj)) (s:Shared) (σ:St) (H:Hp) (Q:Bool→Hp→Prop),Inv X pins σ H s→t σ H Q→wpAny (model X.prog X.w) X.A (isTrue e X.env whole) (TP X pins σ Q) X.xe s
theorem PW.pt {X:Cx} {e:Expr} {t:TT} (h:PW X e t):PT X e t:=h _
def PA (X:Cx) (es:List Expr) (t:TA):Prop :=
 ∀ (pos:Pos) (pins:List (Addr × Obj)) (s:Shared) (σ:St) (H:Hp) (Q:List V→Hp→Prop),Inv X pins σ H s→t σ H Q→wpAny (model X.prog X.w) X.A (spliced (backTo pos (starEach es X.env))) (AP X pins σ Q) X.xe s
def PS (X:Cx) (st:Stmt) (t:TS):Prop :=
 ∀ (pins:List (Addr × Obj)) (s:Shared) (σ:St) (H:Hp) (D:Ends),Inv X pins σ H s→t D σ H→wpAny (model X.prog X.w) X.A (exec st X.env) (SP X pins D) X.xe s
def PSs (X:Cx) (st:List Stmt) (t:TS):Prop :=
 ∀ (pins:List (Addr × Obj)) (s:Shared) (σ:St) (H:Hp) (D:Ends),Inv X pins σ H s→t D σ H→wpAny (model X.prog X.w) X.A (execs st X.env) (SP X pins D) X.xe s
theorem thn {α:Type} {t:Sem α} {Q Q':α→Shared→Prop} {M:Model} {A:Around} {E:Value→Shared→Prop} {s:Shared} (h:wpAny M A t Q E s) (hQ:∀ a s,Q a s→Q' a s):wpAny M A t Q' E s:=wpAny_mono h hQ fun _ _ x=>x
end L2
namespace L2
open PySem PySem.Spec PyProof.Rows
section
variable {X:Cx}
def tVar (i:Nat):TE:=fun σ H Q=>∃ v,σ[i]? = some (some v)∧Q v H
def tC (v:V):TE:=fun _ H Q=>Q v H
theorem pe_var {i:Nat} {x:Str} {pos:Pos} (hN:X.N[i]? = some x) (hv:Vis X.env.scope x) (hd:(x == ("__debug__":Str)) = false:=by decide) (hcd:(x == ("__classdict__":Str)) = false:=by decide):PE X (.Name x pos) (tVar i):=by
 intro pins s σ H Q I h
 obtain ⟨v,e,h⟩:=h
 obtain ⟨m,hn,hl⟩:=I.loc
 obtain ⟨u,r,l⟩:=hl i x v hN e hv
 have fin:EP X pins σ Q u s:=⟨v,H,I,r,h⟩
 rcases l with ⟨hk,hm⟩ | ⟨hk,c,hc,hcell⟩
 · exact wpAny_Name (wpAny_loadName_local I.ok.kind hk hn hm fin) hd
 · rcases hk with hk | hk
   · exact wpAny_Name (wpAny_loadName_cell I.ok.kind hk hc hcell fin) hd
   · exact wpAny_Name (wpAny_loadName_free I.ok.kind hk hc hcell fin hcd) hd
theorem pe_int {i j pos}:PE X (.Constant (.int i) j pos) (tC (.int i)):=fun _ _ _ H _ I h=>wpAny_Constant_int ⟨.int i,H,I.tok _,⟨_,rfl⟩,h⟩
theorem pe_bl {b j pos}:PE X (.Constant (.bool b) j pos) (tC (.bl b)):=fun _ _ _ H _ I h=>Constant_bool ⟨.bl b,H,I,rfl,h⟩
theorem pe_non {j pos}:PE X (.Constant .none j pos) (tC .non):=fun _ _ _ H _ I h=>Constant_none ⟨.non,H,I,rfl,h⟩
theorem pe_str {x j pos}:PE X (.Constant (.str x) j pos) (tC (.str x)):=fun _ _ _ H _ I h=>Calls.Constant_str ⟨.str x,H,I.tok _,⟨_,rfl⟩,h⟩
def Gl (X:Cx) (x:Str):Prop:=X.env.kindOf x = some .globalImplicit
theorem ld_glob {E:Value→Shared→Prop} {pins:List (Addr × Obj)} {s:Shared} {σ:St} {H:Hp} {x:Str} {u:Value} {pos:Pos} {Q:Value→Shared→Prop} (I:Inv X pins σ H s) (hg:Gl X x) (hm:X.mg x = some u) (h:Q u s)
 (hd:(x == ("__debug__":Str)) = false:=by decide):wpAny (model X.prog X.w) X.A (eval (.Name x pos) X.env) Q E s :=
 Calls.Name_function_global I.ok.kind hg (Calls.loadGlobal_global (by rw [I.ok.glob];exact I.mod.glob.keeps I.bk) hm h) hd
theorem ld_blt {E:Value→Shared→Prop} {pins:List (Addr × Obj)} {s:Shared} {σ:St} {H:Hp} {x:Str} {u:Value} {pos:Pos} {Q:Value→Shared→Prop} (I:Inv X pins σ H s) (hg:Gl X x) (hm:X.mg x = none) (hv:bootBuiltins x = some u) (h:Q u s)
 (hn:x≠"__name__":=by decide) (hd:(x == ("__debug__":Str)) = false:=by decide):wpAny (model X.prog X.w) X.A (eval (.Name x pos) X.env) Q E s:=by
 obtain ⟨mb,h1,h2⟩:=I.mod.blt
 exact Calls.Name_function_global I.ok.kind hg (Calls.loadGlobal_builtin (by rw [I.ok.glob];exact I.mod.glob.keeps I.bk) hm (by rw [I.ok.blt];exact h1.keeps I.bk) ((h2 x hn).trans hv) h) hd
theorem pe_glob {x:Str} {v:V} {u:Value} {pos:Pos} (hg:Gl X x) (hm:X.mg x = some u) (r:RelV v u) (hd:(x == ("__debug__":Str)) = false:=by decide):PE X (.Name x pos) (tC v) :=
 fun _ _ _ H _ I h=>ld_glob I hg hm ⟨v,H,I,r,h⟩ hd
theorem pe_bltn {x:Str} {v:V} {u:Value} {pos:Pos} (hg:Gl X x) (hm:X.mg x = none) (hv:bootBuiltins x = some u) (r:RelV v u) (hn:x≠"__name__":=by decide) (hd:(x == ("__debug__":Str)) = false:=by decide):PE X (.Name x pos) (tC v) :=
 fun _ _ _ H _ I h=>ld_blt I hg hm hv ⟨v,H,I,r,h⟩ hn hd
variable {a b:Expr} {ta tb:TE} {pos:Pos}
variable {tA tB':TT} {rest:List Expr}
def tAnd (t u:TT):TT:=fun σ H Q=>t σ H fun c H1=>if c = true then u σ H1 Q else Q false H1
def tOr (t u:TT):TT:=fun σ H Q=>t σ H fun c H1=>if c = true then Q true H1 else u σ H1 Q
def tNot (t:TT):TT:=fun σ H Q=>t σ H fun c H1=>Q (!c) H1
theorem pw_and1 (ha:PT X a tA):PW X (.BoolOp .And [a] pos) tA:=by
 intro wh pins s σ H Q I h
 refine isTrue_and (thn (ha pins s σ H Q I h) fun c s1 e=>?_)
 cases c with
 | true=>exact isTrue_and_nil e
 | false=>exact e
theorem pw_or1 (ha:PT X a tA):PW X (.BoolOp .Or [a] pos) tA:=by
 intro wh pins s σ H Q I h
 refine isTrue_or (thn (ha pins s σ H Q I h) fun c s1 e=>?_)
 cases c with
 | false=>exact isTrue_or_nil e
 | true=>exact e
theorem pw_and (ha:PT X a tA) (hb:PW X (.BoolOp .And (b::rest) pos) tB'):PW X (.BoolOp .And (a::b::rest) pos) (tAnd tA tB'):=by
 intro wh pins s σ H Q I h
 refine isTrue_and (thn (ha pins s σ H _ I h) fun c s1 ⟨H1,I1,q1⟩=>?_)
 cases c with
 | true=>exact hb wh pins s1 σ H1 Q I1 q1
 | false=>exact ⟨H1,I1,q1⟩
theorem pw_or (ha:PT X a tA) (hb:PW X (.BoolOp .Or (b::rest) pos) tB'):PW X (.BoolOp .Or (a::b::rest) pos) (tOr tA tB'):=by
 intro wh pins s σ H Q I h
 refine isTrue_or (thn (ha pins s σ H _ I h) fun c s1 ⟨H1,I1,q1⟩=>?_)
 cases c with
 | true=>exact ⟨H1,I1,q1⟩
 | false=>exact hb wh pins s1 σ H1 Q I1 q1
theorem pt_not (ha:PT X a tA):PT X (.UnaryOp .Not a pos) (tNot tA):=by
 intro pins s σ H Q I h
 exact isTrue_not (ha pins s σ H (fun c H1=>Q (!c) H1) I h)
def tAndV (ta tb:TE):TE:=fun σ H Q=>ta σ H fun x H1=>∃ c,x = .bl c∧if c = true then tb σ H1 Q else Q (.bl false) H1
def tOrV (ta tb:TE):TE:=fun σ H Q=>ta σ H fun x H1=>∃ c,x = .bl c∧if c = true then Q (.bl true) H1 else tb σ H1 Q
def tNotV (ta:TE):TE:=fun σ H Q=>ta σ H fun x H1=>∃ c,x = .bl c∧Q (.bl (!c)) H1
theorem pe_one {op} {t:TE} (h:PE X a t):PE X (.BoolOp op [a] pos) t:=fun pins s σ H Q I hw=>BoolOp_one (h pins s σ H Q I hw)
theorem pe_and (ha:PE X a ta) (hb:PE X (.BoolOp .And (b::rest) pos) tb):PE X (.BoolOp .And (a::b::rest) pos) (tAndV ta tb):=by
 intro pins s σ H Q I h
 refine BoolOp_and (thn (ha pins s σ H _ I h) fun v s1 ⟨x,H1,I1,r1,q1⟩=>?_)
 obtain ⟨c,rfl,q1⟩:=q1
 cases r1
 refine wpAny_truthy_bool ?_
 cases c with
 | true=>exact hb pins s1 σ H1 Q I1 q1
 | false=>exact ⟨.bl false,H1,I1,rfl,q1⟩
theorem pe_or (ha:PE X a ta) (hb:PE X (.BoolOp .Or (b::rest) pos) tb):PE X (.BoolOp .Or (a::b::rest) pos) (tOrV ta tb):=by
 intro pins s σ H Q I h
 refine BoolOp_or (thn (ha pins s σ H _ I h) fun v s1 ⟨x,H1,I1,r1,q1⟩=>?_)
 obtain ⟨c,rfl,q1⟩:=q1
 cases r1
 refine wpAny_truthy_bool ?_
 cases c with
 | false=>exact hb pins s1 σ H1 Q I1 q1
 | true=>exact ⟨.bl true,H1,I1,rfl,q1⟩
theorem pe_not (ha:PE X a ta):PE X (.UnaryOp .Not a pos) (tNotV ta):=by
 intro pins s σ H Q I h
 refine UnaryOp_ (thn (ha pins s σ H _ I h) fun v s1 ⟨x,H1,I1,r1,q1⟩=>?_)
 obtain ⟨c,rfl,q1⟩:=q1
 cases r1
 exact not_of (wpAny_truthy_bool ⟨.bl (!c),H1,I1,rfl,q1⟩)
def tIf (t:TT) (ta tb:TE):TE:=fun σ H Q=>t σ H fun c H1=>if c = true then ta σ H1 Q else tb σ H1 Q
theorem pe_ifExp {c:Expr} (hc:PT X c tA) (ha:PE X a ta) (hb:PE X b tb):PE X (.IfExp c a b pos) (tIf tA ta tb):=by
 intro pins s σ H Q I h
 refine wpAny_IfExp (thn (hc pins s σ H _ I h) fun d s1 ⟨H1,I1,q1⟩=>?_)
 cases d with
 | true=>exact ha pins s1 σ H1 Q I1 q1
 | false=>exact hb pins s1 σ H1 Q I1 q1
end
end L2
namespace L2
open PySem PySem.Spec PyProof.Rows
def SqL (K:PySem.W.Frag) (H:Hp) (a:Addr) (xs:List V):Prop :=
 Rd H a (.lst xs) ∨
  ∃ (o:Obj) (its:Array Value) (n:Nat),K.lookup a = some o∧o.cls = .type "list"∧o.dict = none∧o.data = .seq its n∧its.size≤sizeLine∧Vals xs its.toList
def SqT (K:PySem.W.Frag) (H:Hp) (a:Addr) (xs:List V):Prop :=
 Rd H a (.tup xs) ∨
  ∃ (o:Obj) (its:Array Value) (n:Nat),K.lookup a = some o∧o.cls = .type "tuple"∧o.data = .seq its n∧its.size≤sizeLine∧Vals xs its.toList
def absV:Value→Option V
 | .none=>some .non
 | .bool b=>some (.bl b)
 | .int i _=>some (.int i)
 | .str x _=>some (.str x)
 | .bytes b _=>some (.byt b)
 | .float b _=>some (.flt b)
 | .ref a=>some (.ref a)
 | .type n=>some (.ty n)
 | _=>none
theorem RelV.abs {x:V} {u:Value} (r:RelV x u):absV u = some x:=by
 cases x with
 | non=>cases r;rfl
 | bl _=>cases r;rfl
 | int _=>obtain ⟨t,rfl⟩:=r;rfl
 | str _=>obtain ⟨t,rfl⟩:=r;rfl
 | byt _=>obtain ⟨t,rfl⟩:=r;rfl
 | flt _=>obtain ⟨t,rfl⟩:=r;rfl
 | ref _=>cases r;rfl
 | ty _=>cases r;rfl
theorem RelV.inj {x y:V} {u:Value} (r:RelV x u) (q:RelV y u):x = y:=Option.some.inj (r.abs.symm.trans q.abs)
theorem Vals.inj:∀ {xs ys:List V} {us:List Value},Vals xs us→Vals ys us→xs = ys
 | _,_,_,.nil,.nil=>rfl
 | _,_,_,.cons r t,.cons r' t'=>by rw [r.inj r',Vals.inj t t']
section
variable {X:Cx} {pins:List (Addr × Obj)} {σ:St} {H:Hp} {s:Shared} {a:Addr} {xs ys:List V}
theorem SqT.of {K:PySem.W.Frag} (h:H a = some (.tup xs)):SqT K H a xs:=.inl (.inl h)
theorem Inv.list (I:Inv X pins σ H s) (h:SqL X.K H a xs):∃ its:List Value,Vals xs its∧PlainL s.heap a its.toArray∧xs.length≤sizeLine:=by
 rcases h with h | ⟨o,its,n,hk,hc,hd,hs,hz,r⟩
 · obtain ⟨z,its,n,r,e⟩:=h.ok I.hok
   exact ⟨its,r,⟨_,n,e,rfl,rfl,rfl⟩,z⟩
 · refine ⟨its.toList,r,⟨o,n,I.kIn a o hk,hc,hd,by simpa using hs⟩,?_⟩
   have e:=r.length
   simp only [Array.length_toList] at e
   omega
theorem Inv.tuple (I:Inv X pins σ H s) (h:SqT X.K H a xs):∃ its:List Value,Vals xs its∧IsTup s.heap a its.toArray∧xs.length≤sizeLine:=by
 rcases h with h | ⟨o,its,n,hk,hc,hs,hz,r⟩
 · obtain ⟨z,its,r,p⟩:=h.ok I.hok
   exact ⟨its,r,p,z⟩
 · refine ⟨its.toList,r,⟨o,I.kIn a o hk,hc,n,by simpa using hs⟩,?_⟩
   have e:=r.length
   simp only [Array.length_toList] at e
   omega
theorem Inv.list_inj (I:Inv X pins σ H s) (h:SqL X.K H a xs) (h':SqL X.K H a ys):xs = ys:=by
 obtain ⟨its,r,⟨o,n,e,_,_,d⟩,_⟩:=I.list h
 obtain ⟨its',r',⟨o',n',e',_,_,d'⟩,_⟩:=I.list h'
 rw [e] at e';cases e'
 rw [d] at d'
 injection d' with d1 _
 have:its = its':=by simpa using congrArg Array.toList d1
 subst this
 exact r.inj r'
theorem Inv.tuple_inj (I:Inv X pins σ H s) (h:SqT X.K H a xs) (h':SqT X.K H a ys):xs = ys:=by
 obtain ⟨its,r,⟨o,e,_,n,d⟩,_⟩:=I.tuple h
 obtain ⟨its',r',⟨o',e',_,n',d'⟩,_⟩:=I.tuple h'
 rw [e] at e';cases e'
 rw [d] at d'
 injection d' with d1 _
 have:its = its':=by simpa using congrArg Array.toList d1
 subst this
 exact r.inj r'
end
abbrev Cx.wish (X:Cx) (E:Value→Shared→Prop):Cx:={ X with xe:=E }
abbrev Cx.nox (X:Cx):Cx:=X.wish fun _ _=>False
theorem Cx.Ok.wish {X:Cx} (ok:X.Ok) (E:Value→Shared→Prop):(X.wish E).Ok :=
 ⟨ok.mod,ok.kind,ok.glob,ok.blt,ok.above,ok.inj,ok.has,ok.cab,ok.hd,ok.frames,ok.stk,ok.exf,ok.bs,ok.bsz,ok.noex,ok.exfs,ok.funs,ok.frf⟩
theorem Cx.Ok.unwish {X:Cx} {E:Value→Shared→Prop} (ok:(X.wish E).Ok):X.Ok :=
 ⟨ok.mod,ok.kind,ok.glob,ok.blt,ok.above,ok.inj,ok.has,ok.cab,ok.hd,ok.frames,ok.stk,ok.exf,ok.bs,ok.bsz,ok.noex,ok.exfs,ok.funs,ok.frf⟩
section
variable {X:Cx} {pins:List (Addr × Obj)} {σ:St} {H:Hp} {s:Shared} {E:Value→Shared→Prop}
theorem Inv.wish (I:Inv X pins σ H s) (E:Value→Shared→Prop):Inv (X.wish E) pins σ H s:=⟨I.ok.wish E,I.os,I.bare,I.base,I.loc,I.cell,I.free,I.freeC,I.pin,I.hok,I.len⟩
theorem Inv.unwish (I:Inv (X.wish E) pins σ H s):Inv X pins σ H s:=⟨I.ok.unwish,I.os,I.bare,I.base,I.loc,I.cell,I.free,I.freeC,I.pin,I.hok,I.len⟩
theorem SP.unwish {D:Ends} {f:Flow} {s':Shared} (h:SP (X.wish E) pins D f s'):SP X pins D f s':=by
 cases f with
 | next=>obtain ⟨σ',H',I,q⟩:=h;exact ⟨σ',H',I.unwish,q⟩
 | brk=>obtain ⟨σ',H',I,q⟩:=h;exact ⟨σ',H',I.unwish,q⟩
 | cont=>obtain ⟨σ',H',I,q⟩:=h;exact ⟨σ',H',I.unwish,q⟩
 | ret u=>obtain ⟨v,σ',H',I,r,q⟩:=h;exact ⟨v,σ',H',I.unwish,r,q⟩
theorem PSs.nox {st:List Stmt} {t:TS} (h:PSs X.nox st t):PSs X st t:=fun pins s σ H D I hw =>
 wpAny_mono (h pins s σ H D (I.wish _) hw) (fun _ _ q=>q.unwish) fun _ _ z=>False.elim z
end
section
variable {X:Cx} {st:Stmt} {rest:List Stmt} {t u:TS} {e:Expr} {te:TE} {pos:Pos}
def tNext:TS:=fun D σ H=>D.nx σ H
def tSeq (t u:TS):TS:=fun D σ H=>t { D with nx:=u D } σ H
theorem pss_nil:PSs X [] tNext:=fun _ _ σ H _ I h=>wpAny_execs_nil ⟨σ,H,I,h⟩
theorem pss_cons (h1:PS X st t) (h2:PSs X rest u):PSs X (st::rest) (tSeq t u):=by
 intro pins s σ H D I h
 refine wpAny_execs_cons (thn (h1 pins s σ H { D with nx:=u D } I h) fun f s1 q=>?_)
 cases f with
 | next =>
   obtain ⟨σ',H',I',q⟩:=q
   exact h2 pins s1 σ' H' D I' q
 | ret v=>exact q
 | brk=>exact q
 | cont=>exact q
def tBreak:TS:=fun D σ H=>D.bk σ H
def tCont:TS:=fun D σ H=>D.ct σ H
theorem ps_pass:PS X (.Pass pos) tNext:=fun _ _ σ H _ I h=>wpAny_Pass ⟨σ,H,I,h⟩
theorem ps_break:PS X (.Break pos) tBreak:=fun _ _ σ H _ I h=>wpAny_Break ⟨σ,H,I,h⟩
theorem ps_continue:PS X (.Continue pos) tCont:=fun _ _ σ H _ I h=>wpAny_Continue ⟨σ,H,I,h⟩
theorem Inv.quiet {pins:List (Addr × Obj)} {σ:St} {H:Hp} {s:Shared} (I:Inv X pins σ H s):interactive X.env = false:=by simp [interactive,I.ok.kind]
def tDrop (te:TE):TS:=fun D σ H=>te σ H fun _ H1=>D.nx σ H1
theorem ps_expr (he:PE X e te) (hs:swapsWith e none pos.line X.env = pure false:=by rfl):PS X (.Expr e pos) (tDrop te):=by
 intro pins s σ H D I h
 exact wpAny_Expr_any (thn (he pins s σ H _ I h) fun v s1 ⟨x,H1,I1,r1,q1⟩=>⟨σ,H1,I1,q1⟩) I.quiet hs
def tRet (te:TE):TS:=fun D σ H=>te σ H D.rt
theorem ps_ret (he:PE X e te):PS X (.Return (some e) pos) (tRet te):=by
 intro pins s σ H D I h
 exact wpAny_Return_some (thn (he pins s σ H _ I h) fun v s1 ⟨x,H1,I1,r1,q1⟩=>⟨x,σ,H1,I1,r1,q1⟩)
def tRetN:TS:=fun D _ H=>D.rt .non H
theorem ps_retN:PS X (.Return none pos) tRetN:=fun _ _ σ H _ I h=>wpAny_Return_none ⟨.non,σ,H,I,rfl,h⟩
def tIfS (c:TT) (t u:TS):TS:=fun D σ H=>c σ H fun b H1=>if b = true then t D σ H1 else u D σ H1
theorem ps_if {c:Expr} {a b:List Stmt} {tc:TT} (hc:PT X c tc) (ha:PSs X a t) (hb:PSs X b u):PS X (.If c a b pos) (tIfS tc t u):=by
 intro pins s σ H D I h
 refine wpAny_If (thn (hc pins s σ H _ I h) fun d s1 ⟨H1,I1,q1⟩=>?_)
 cases d with
 | true=>exact ha pins s1 σ H1 D I1 q1
 | false=>exact hb pins s1 σ H1 D I1 q1
end
abbrev TG:=V→St→Hp→(St→Hp→Prop)→Prop
abbrev TGs:=List V→St→Hp→(St→Hp→Prop)→Prop
def PG (X:Cx) (target:Expr) (t:TG):Prop :=
 ∀ (pins:List (Addr × Obj)) (s:Shared) (σ:St) (H:Hp) (v:V) (u:Value) (Q:St→Hp→Prop),Inv X pins σ H s→RelV v u→t v σ H Q →
  wpAny (model X.prog X.w) X.A (assign target X.env u) (fun _ s'=>∃ σ' H',Inv X pins σ' H' s'∧Q σ' H') X.xe s
def PGs (X:Cx) (ts:List Expr) (t:TGs):Prop :=
 ∀ (pins:List (Addr × Obj)) (s:Shared) (σ:St) (H:Hp) (vs:List V) (us:List Value) (Q:St→Hp→Prop),Inv X pins σ H s→Vals vs us→t vs σ H Q →
  wpAny (model X.prog X.w) X.A (assignInOrder ((assignEach ts X.env).map (·.2)) us) (fun _ s'=>∃ σ' H',Inv X pins σ' H' s'∧Q σ' H') X.xe s
abbrev TSet:=V→V→V→Hp→(Hp→Prop)→Prop
def PSet (X:Cx) (t:TSet):Prop :=
 ∀ (pins:List (Addr × Obj)) (s:Shared) (σ:St) (H:Hp) (o i v:V) (ov iv u:Value) (Q:Hp→Prop),Inv X pins σ H s→RelV o ov→RelV i iv→RelV v u→t o i v H Q →
  wpAny (model X.prog X.w) X.A (setItem ov iv u) (fun _ s'=>∃ H',Inv X pins σ H' s'∧Q H') X.xe s
section
variable {X:Cx} {pos:Pos}
def gName (i:Nat):TG:=fun v σ H Q=>Q (σ.set i (some v)) H
theorem pg_name {i:Nat} {x:Str} (hN:X.N.Nodup) (hi:X.N[i]? = some x) (hx:Loc X.env.scope x) (hf:X.fn x = true∨X.env.scope.names.lookup x = some .local:=by first | exact .inl rfl | exact .inr rfl | assumption):PG X (.Name x pos) (gName i):=by
 intro pins s σ H v u Q I r h
 exact wpAny_assign_Name (store_ok I hN hi hx r (fun s' I'=>⟨_,H,I',h⟩) hf)
def gNil:TGs:=fun vs σ H Q=>vs = []∧Q σ H
def gCons (t:TG) (u:TGs):TGs:=fun vs σ H Q=>∃ v r,vs = v::r∧t v σ H fun σ' H'=>u r σ' H' Q
theorem pgs_nil:PGs X [] gNil:=by
 intro pins s σ H vs us Q I r h
 obtain ⟨e,h⟩:=h
 subst e
 cases r
 exact assignInOrder_nil ⟨σ,H,I,h⟩
theorem pgs_cons {e:Expr} {es:List Expr} {t:TG} {u:TGs} (h1:PG X e t) (h2:PGs X es u)
 (hs:(assignEach (e::es) X.env).map (·.2) = assign e X.env::(assignEach es X.env).map (·.2):=by rfl):PGs X (e::es) (gCons t u):=by
 intro pins s σ H vs us Q I r h
 obtain ⟨v,vr,e1,h⟩:=h
 subst e1
 cases r with
 | cons r rr =>
   rw [hs]
   refine assignInOrder_cons (thn (h1 pins s σ H _ _ _ I r h) fun _ s1 ⟨σ1,H1,I1,q1⟩=>?_)
   exact h2 pins s1 σ1 H1 _ _ Q I1 rr q1
def gTup (K:PySem.W.Frag) (n:Nat) (t:TGs):TG:=fun v σ H Q=>∃ a xs,v = .ref a∧SqT K H a xs∧xs.length = n∧t xs σ H Q
theorem pg_tup {es:List Expr} {k:Nat} {t:TGs} {n:Nat} (hc:X.calm = true) (h:PGs X es t)
 (hn:(assignEach es X.env).length = n:=by rfl) (hst:(assignEach es X.env).findIdx? (·.1) = none:=by rfl):PG X (.Tuple es k pos) (gTup X.K n t):=by
 intro pins s σ H v u Q I r hw
 obtain ⟨a,xs,e1,hq,hl,hw⟩:=hw
 subst e1
 cases r
 obtain ⟨its,rv,ht,hz⟩:=I.tuple hq
 refine assign_Tuple_tuple (I.ok.hd hc) ht (by simp [hn,← hl,rv.length]) hst fun h' hx=>?_
 have I1:Inv X pins σ H { s with heap:=h' }:=I.kept (t':=s.toks) fun b o e=>hx b o (Nat.ne_of_lt (Heap.lt_size e)) e
 exact h pins _ σ H xs _ Q I1 (by simpa using rv) hw
def gSub (to ti:TE) (t:TSet):TG:=fun v σ H Q=>to σ H fun o H1=>ti σ H1 fun i H2=>t o i v H2 fun H3=>Q σ H3
theorem pg_sub {o i:Expr} {to ti:TE} {t:TSet} (ho:PE X o to) (hi:PE X i ti) (hs:PSet X t)
 (ha:∀ v,assign (.Subscript o i pos) X.env v = (do
   let ov ← holding [v] (eval o X.env)
   let iv ← holding [v,ov] (eval i X.env)
   standAt pos
   holding [v,ov,iv] (setItem ov iv v)
   release [v,ov,iv] []):=by intro _;rfl):PG X (.Subscript o i pos) (gSub to ti t):=by
 intro pins s σ H v u Q I r h
 rw [ha]
 refine wpAny_bind (wpAny_holding (thn (ho pins s σ H _ I h) fun ov s1 ⟨x,H1,I1,r1,q1⟩=>?_))
 refine wpAny_bind (wpAny_holding (thn (hi pins s1 σ H1 _ I1 q1) fun iv s2 ⟨y,H2,I2,r2,q2⟩=>?_))
 refine wpAny_bind (wpAny_standAt (wpAny_bind (wpAny_holding (thn (hs pins s2 σ H2 x y v ov iv u _ I2 r1 r2 r q2) fun _ s3 ⟨H3,I3,q3⟩=>?_))))
 exact wpAny_release ⟨σ,H3,I3,q3⟩
def tAsg (te:TE) (g:TG):TS:=fun D σ H=>te σ H fun x H1=>g x σ H1 D.nx
theorem ps_asg {tg e:Expr} {te:TE} {g:TG} (he:PE X e te) (hg:PG X tg g) (hs:swapsWithSole [tg] e pos.line X.env = pure false:=by rfl) (hw:swappedStores [tg] e X.env = pure none:=by rfl)
 (h1:(assignEach [tg] X.env).map (·.2) = [assign tg X.env]:=by rfl):PS X (.Assign [tg] e pos) (tAsg te g):=by
 intro pins s σ H D I h
 refine wpAny_Assign_stores (thn (he pins s σ H _ I h) fun v s1 ⟨x,H1,I1,r1,q1⟩=>?_) hs hw
 rw [h1]
 exact thn (hg pins s1 σ H1 x v _ I1 r1 q1) fun _ s2 q=>q
theorem ps_set {i:Nat} {x:Str} {e:Expr} {te:TE} {pos':Pos} (hN:X.N.Nodup) (hi:X.N[i]? = some x) (hx:Loc X.env.scope x) (he:PE X e te) (hs:swapsWith e (some (.Name x pos')) pos.line X.env = pure false:=by rfl) (hf:X.fn x = true∨X.env.scope.names.lookup x = some .local:=by first | exact .inl rfl | exact .inr rfl | assumption) :
 PS X (.Assign [.Name x pos'] e pos) (tAsg te (gName i)):=by
 intro pins s σ H D I h
 refine wpAny_Assign_Name (thn (he pins s σ H _ I h) fun v s1 ⟨y,H1,I1,r1,q1⟩=>?_) hs
 exact store_ok I1 hN hi hx r1 (fun s2 I2=>⟨_,H1,I2,q1⟩) hf
end
section
variable {X:Cx} {pos:Pos}
def tWhile (c:TT) (tb:TS):TS:=fun D σ H=>∃ W:Nat→St→Hp→Prop,(∃ m,W m σ H)∧∀ m σ H,W m σ H →
 c σ H fun b H1=>if b = true then ∃ N:St→Hp→Prop,(∀ σ' H',N σ' H'→∃ m',m' < m∧W m' σ' H')∧tb { D with nx:=N,ct:=N,bk:=D.nx } σ H1 else D.nx σ H1
theorem ps_while {c:Expr} {body:List Stmt} {tc:TT} {tb:TS} (hp:PassesOwn (model X.prog X.w) X.A X.env X.xe) (hc:PT X c tc) (hb:PSs X body tb):PS X (.While c body [] pos) (tWhile tc tb):=by
 intro pins s σ H D I h
 obtain ⟨W,⟨m0,w0⟩,turn⟩:=h
 refine wpAny_While (codeAny_whileLoop (fun n s'=>∃ σ' H',Inv X pins σ' H' s'∧W n σ' H') ?_ m0 ⟨σ,H,I,w0⟩)
 rintro n s1 ⟨σ1,H1,I1,w1⟩
 refine wpAny_passesOwn hp (thn (hc pins s1 σ1 H1 _ I1 (turn n σ1 H1 w1)) fun b s2 ⟨H2,I2,q2⟩=>?_)
 cases b with
 | true =>
   obtain ⟨N,hN,q2⟩:=q2
   rw [if_pos rfl]
   refine wpAny_passesOwn hp (thn (hb pins s2 σ1 H2 _ I2 q2) fun f s3 q3=>?_)
   cases f with
   | next =>
     obtain ⟨σ3,H3,I3,n3⟩:=q3
     obtain ⟨m',hm,w3⟩:=hN σ3 H3 n3
     exact ⟨m',hm,σ3,H3,I3,w3⟩
   | cont =>
     obtain ⟨σ3,H3,I3,n3⟩:=q3
     obtain ⟨m',hm,w3⟩:=hN σ3 H3 n3
     exact ⟨m',hm,σ3,H3,I3,w3⟩
   | brk=>exact q3
   | ret v=>exact q3
 | false =>
   rw [if_neg Bool.false_ne_true]
   exact wpAny_execs_nil ⟨σ1,H2,I2,q2⟩
end
structure It where
 go:Nat→Hp→Prop
 yld:Nat→Hp→V→Hp→Prop
 stop:Nat→Hp→Prop
def FpOk (X:Cx) (pins:List (Addr × Obj)) (H:Hp) (b:Addr):Prop :=
 H b = none∧b≠X.env.locals∧b∉X.fs∧(b∈X.ex∨X.s₀.heap.objs.size≤b)∧(∀ x c,X.env.cells.lookup x = some c→c≠b)∧∀ p∈X.pn++pins,p.1≠b
theorem Inv.fpOk {X:Cx} {pins:List (Addr × Obj)} {σ:St} {H H':Hp} {s:Shared} {b:Addr} (I:Inv X pins σ H s) (hb:s.heap.objs.size≤b) (hn:H' b = none):FpOk X pins H' b:=by
 refine ⟨hn,Nat.ne_of_gt (Nat.lt_of_lt_of_le I.lt hb),I.nofs hb,.inr (Nat.le_trans I.sz hb),fun x c e z=>?_,fun p hp z=>?_⟩
 · obtain ⟨v,q⟩:=I.cell x c e
   exact absurd (Nat.lt_of_lt_of_le q.lt (by rw [z];exact hb)) (Nat.lt_irrefl _)
 · exact absurd (Nat.lt_of_lt_of_le (Heap.lt_size (I.pin p hp).1) (by rw [z];exact hb)) (Nat.lt_irrefl _)
structure Turn (P:Program) (w:World) (K:PySem.W.Frag) (tg:Expr) (J:It) (fp:List Addr) (it:Addr) (tn:Nat→Heap→Prop):Prop where
 mem:it∈fp
 obj:∀ i h,tn i h→∀ b∈fp,∃ o,h.get? b = some o∧∀ v,o.data≠.cell v
 keep:∀ i h h',tn i h→(∀ b∈fp,∀ o,h.get? b = some o→h'.get? b = some o)→tn i h'
 item:∀ (X:Cx),X.prog = P→X.w = w→X.K = K→X.calm = true→∀ (i:Nat) (pins:List (Addr × Obj)) (s:Shared) (σ:St) (H:Hp) (E:Value→Shared→Prop),Inv X pins σ H s→(∀ b∈fp,FpOk X pins H b)→tn i s.heap→J.go i H →
  wpAny (model P w) X.A (pyNext (.ref it)) (fun r s1=>∃ u,r = some u ∧
   wpAny (model P w) X.A (letOwnedTupleGo tg (.ref it) u) (fun _ s2=>∃ x H',Inv X pins σ H' s2∧RelV x u∧J.yld i H x H'∧tn (i+1) s2.heap∧∀ b∈fp,H' b = none) E s1) E s
 done:∀ (X:Cx),X.prog = P→X.w = w→X.K = K→X.calm = true→∀ (i:Nat) (pins:List (Addr × Obj)) (s:Shared) (σ:St) (H:Hp) (E:Value→Shared→Prop),Inv X pins σ H s→(∀ b∈fp,FpOk X pins H b)→tn i s.heap→J.stop i H →
  wpAny (model P w) X.A (pyNext (.ref it)) (fun r s1=>r = none∧Inv X pins σ H s1) E s
 self:∀ (A:Around) (i:Nat) (s:Shared) (Q:Value→Shared→Prop) (E:Value→Shared→Prop),tn i s.heap→Q (.ref it) s→wpAny (model P w) A (pyIter (.ref it)) Q E s
abbrev TI:=St→Hp→(It→Hp→Prop)→Prop
def PIE (X:Cx) (pins:List (Addr × Obj)) (σ:St) (tg:Expr) (R:It→Hp→Prop) (itv:Value) (s2:Shared):Prop :=
 ∃ (it:Addr) (fp:List Addr) (tn:Nat→Heap→Prop) (J:It) (H':Hp),itv = .ref it∧Inv X pins σ H' s2∧Turn X.prog X.w X.K tg J fp it tn∧tn 0 s2.heap∧(∀ b∈fp,FpOk X pins H' b)∧R J H'
def PI (X:Cx) (tg iter:Expr) (wi:TI):Prop :=
 ∀ (pins:List (Addr × Obj)) (s:Shared) (σ:St) (H:Hp) (R:It→Hp→Prop),Inv X pins σ H s→wi σ H R →
  wpAny (model X.prog X.w) X.A (eval iter X.env) (fun v s1=>wpAny (model X.prog X.w) X.A (pyIter v) (PIE X pins σ tg R) X.xe s1) X.xe s
theorem go_of {M:Model} {A:Around} {E:Value→Shared→Prop} {s:Shared} {tg:Expr} {it:Addr} {u:Value} {o:Obj} {n:String} {vs:Array Value} {Q:Unit→Shared→Prop} (ho:s.heap.get? it = some o) (hc:o.cls = .type n) (hd:o.data = .fields vs)
 (hn:["enumerate","zip","dict_itemiterator","dict_reverseitemiterator","odict_iterator","itertools.zip_longest","itertools.pairwise"].contains n = false) (hQ:Q () s):wpAny M A (letOwnedTupleGo tg (.ref it) u) Q E s:=by
 unfold letOwnedTupleGo
 cases tg<;>first
  | exact wpAny_pure hQ
  | (cases u<;>first
      | exact wpAny_pure hQ
      | (refine wpAny_bind (wpAny_load ho ?_)
         rw [hc,hd]
         show wpAny M A (if (["enumerate","zip","dict_itemiterator","dict_reverseitemiterator","odict_iterator","itertools.zip_longest","itertools.pairwise"].contains n && vs[0]? == some (rawInt _)) = true then _ else _) Q E s
         rw [if_neg (by intro h;rw [hn,Bool.false_and] at h;cases h)]
         exact wpAny_pure hQ))
def Itl (K:PySem.W.Frag) (a:Addr):It :=
 ⟨fun i H=>∃ xs x,SqL K H a xs∧xs[i]? = some x,fun i H x H'=>H' = H∧∀ xs,SqL K H a xs→xs[i]? = some x,fun i H=>∃ xs,SqL K H a xs∧xs.length≤i⟩
def Itt (K:PySem.W.Frag) (a:Addr):It :=
 ⟨fun i H=>∃ xs x,SqT K H a xs∧xs[i]? = some x,fun i H x H'=>H' = H∧∀ xs,SqT K H a xs→xs[i]? = some x,fun i H=>∃ xs,SqT K H a xs∧xs.length≤i⟩
def Itr (lo:Int) (n:Nat):It:=⟨fun i _=>i < n,fun i H x H'=>H' = H∧x = .int (lo+i),fun i _=>n≤i⟩
theorem turn_list {P:Program} {w:World} {K:PySem.W.Frag} {tg:Expr} (a it:Addr):Turn P w K tg (Itl K a) [it] it (fun i h=>h.IsListIter it a i) where
 mem:=by simp
 obj:=fun i h st b hb=>by
  have e:b = it:=by simpa using hb
  subst e
  obtain ⟨o,e,c,d⟩:=st
  exact ⟨o,e,fun v z=>by rw [d] at z;cases z⟩
 keep:=fun i h h' st k=>st.at fun o e=>k it (by simp) o e
 item:=by
  intro X hP hw hK hc i pins s σ H E I hf st hg
  subst hP hw hK
  obtain ⟨xs,x,hq,hx⟩:=hg
  obtain ⟨its,rv,p,hz⟩:=I.list hq
  obtain ⟨u,hu,ru⟩:=rv.get hx
  obtain ⟨f0,f1,f2,f3,f4,f5⟩:=hf it (by simp)
  refine wpAny_pyNext_list_item st p.isList (x:=u) (by simpa using hu) fun h' st' sb=>?_
  have I1:Inv X pins σ H { s with heap:=h' }:=I.turned (t':=s.toks) (fun b o hb e=>(sb.2 b hb).trans e) f0 f1 f3 f4 f5
  obtain ⟨o,e,c,d⟩:=id st'
  exact ⟨u,rfl,go_of (s:={ s with heap:=h' }) e c d (by decide) ⟨x,H,I1,ru,⟨rfl,fun ys hy=>by rw [I.list_inj hy hq];exact hx⟩,st',fun b hb=>(hf b hb).1⟩⟩
 done:=by
  intro X hP hw hK hc i pins s σ H E I hf st hg
  subst hP hw hK
  obtain ⟨xs,hq,hx⟩:=hg
  obtain ⟨its,rv,p,hz⟩:=I.list hq
  obtain ⟨f0,f1,f2,f3,f4,f5⟩:=hf it (by simp)
  have hl:=rv.length
  exact wpAny_pyNext_list_end (I.ok.hd hc) st p.isList (by simp;omega) fun h' eb=>⟨rfl,I.turned (t':=s.toks) (fun b o hb e=>eb b o hb e) f0 f1 f3 f4 f5⟩
 self:=fun _ _ _ _ _ st h=>wpAny_pyIter_listiter st h
theorem turn_tuple {P:Program} {w:World} {K:PySem.W.Frag} {tg:Expr} (a it:Addr):Turn P w K tg (Itt K a) [it] it (fun i h=>h.IsTupleIter it a i) where
 mem:=by simp
 obj:=fun i h st b hb=>by
  have e:b = it:=by simpa using hb
  subst e
  obtain ⟨o,e,c,d⟩:=st
  exact ⟨o,e,fun v z=>by rw [d] at z;cases z⟩
 keep:=fun i h h' st k=>st.at fun o e=>k it (by simp) o e
 item:=by
  intro X hP hw hK hc i pins s σ H E I hf st hg
  subst hP hw hK
  obtain ⟨xs,x,hq,hx⟩:=hg
  obtain ⟨its,rv,p,hz⟩:=I.tuple hq
  obtain ⟨u,hu,ru⟩:=rv.get hx
  obtain ⟨f0,f1,f2,f3,f4,f5⟩:=hf it (by simp)
  refine wpAny_pyNext_tuple_item st (show s.heap.IsTuple a its.toArray from p) (x:=u) (by simpa using hu) fun h' st' sb=>?_
  have I1:Inv X pins σ H { s with heap:=h' }:=I.turned (t':=s.toks) (fun b o hb e=>(sb.2 b hb).trans e) f0 f1 f3 f4 f5
  obtain ⟨o,e,c,d⟩:=id st'
  exact ⟨u,rfl,go_of (s:={ s with heap:=h' }) e c d (by decide) ⟨x,H,I1,ru,⟨rfl,fun ys hy=>by rw [I.tuple_inj hy hq];exact hx⟩,st',fun b hb=>(hf b hb).1⟩⟩
 done:=by
  intro X hP hw hK hc i pins s σ H E I hf st hg
  subst hP hw hK
  obtain ⟨xs,hq,hx⟩:=hg
  obtain ⟨its,rv,p,hz⟩:=I.tuple hq
  obtain ⟨f0,f1,f2,f3,f4,f5⟩:=hf it (by simp)
  have hl:=rv.length
  exact wpAny_pyNext_tuple_end (I.ok.hd hc) st (show s.heap.IsTuple a its.toArray from p) (by simp;omega) fun h' eb=>⟨rfl,I.turned (t':=s.toks) (fun b o hb e=>eb b o hb e) f0 f1 f3 f4 f5⟩
 self:=fun _ _ _ _ _ st h=>wpAny_pyIter_tupleiter st h
theorem turn_range {P:Program} {w:World} {K:PySem.W.Frag} {tg:Expr} (it:Addr) (lo:Int) (n:Nat):Turn P w K tg (Itr lo n) [it] it (fun i h=>IsRangeIter h it (lo+(i:Nat) * 1) ((n:Int) - (i:Nat)) 1) where
 mem:=by simp
 obj:=fun i h st b hb=>by
  have e:b = it:=by simpa using hb
  subst e
  exact ⟨_,st,fun v z=>by
   have z':Data.fields _ = Data.cell v:=z
   cases z'⟩
 keep:=fun i h h' st k=>k it (by simp) _ st
 item:=by
  intro X hP hw hK hc i pins s σ H E I hf st hg
  subst hP hw hK
  obtain ⟨f0,f1,f2,f3,f4,f5⟩:=hf it (by simp)
  have W:=Walks.range (prog:=X.prog) (w:=X.w) (I.ok.hd hc) it lo 1 n
  refine W.item i s _ _ hg st fun v h' tk hv st' kk=>?_
  obtain ⟨t,rfl⟩:=hv
  have I1:Inv X pins σ H { s with heap:=h',toks:=tk }:=I.turned (fun b o hb e=>kk b o (by simpa using hb) e) f0 f1 f3 f4 f5
  refine ⟨_,rfl,go_of (s:={ s with heap:=h',toks:=tk }) (n:="range_iterator") st' rfl rfl (by decide) ⟨.int (lo+i),H,I1,⟨t,?_⟩,⟨rfl,rfl⟩,st',fun b hb=>(hf b hb).1⟩⟩
  rw [Int.mul_one]
 done:=by
  intro X hP hw hK hc i pins s σ H E I hf st hg
  subst hP hw hK
  obtain ⟨f0,f1,f2,f3,f4,f5⟩:=hf it (by simp)
  exact wpAny_pyNext_range_end (I.ok.hd hc) st (by have:n≤i:=hg;omega) fun h' eb=>⟨rfl,I.turned (t':=s.toks) (fun b o hb e=>eb b o hb e) f0 f1 f3 f4 f5⟩
 self:=fun _ _ _ _ _ st h=>wpAny_pyIter_rangeiter st h
end L2
namespace L2
open PySem PySem.Spec PyProof.Rows
section
variable {X:Cx} {tg:Expr}
theorem range_it {pins:List (Addr × Obj)} {σ:St} {H:Hp} {s:Shared} {R:It→Hp→Prop} {E:Value→Shared→Prop} {lo hi:Int} {t u v:Tok} {tk:Nat} (I:Inv X pins σ H s) (h1:-(2 ^ 62)≤lo) (h2:lo < 2 ^ 62) (h3:-(2 ^ 62)≤hi) (h4:hi < 2 ^ 62)
 (q:R (Itr lo (hi - lo).toNat) H):wpAny (model X.prog X.w) X.A (pyIter (.ref s.heap.objs.size)) (PIE X pins σ tg R) E { s with heap:=s.heap.push { cls:=.type "range",data:=.fields #[.int lo t,.int hi u,.int 1 v] },toks:=tk }:=by
 refine wpAny_pyIter_range (IsRange.new ..) (small_one h1 h2 h3 h4) ?_
 have I1:Inv X pins σ H { s with heap:=s.heap.push { cls:=.type "range",data:=.fields #[.int lo t,.int hi u,.int 1 v] },toks:=tk }:=I.kept fun b o e=>Heap.get?_push_of_some _ e
 refine ⟨(s.heap.push { cls:=.type "range",data:=.fields #[.int lo t,.int hi u,.int 1 v] }).objs.size,[(s.heap.push { cls:=.type "range",data:=.fields #[.int lo t,.int hi u,.int 1 v] }).objs.size],_,_,H,rfl,
  I1.kept (t':=tk) fun b o e=>Heap.get?_push_of_some _ e,turn_range _ lo (hi - lo).toNat,?_,fun b hb=>?_,q⟩
 · have e1:lo+((0:Nat):Int) * 1 = lo:=by simp
   have e2:(((hi - lo).toNat:Nat):Int) - ((0:Nat):Int) = Builtin.Range.rangeSize lo hi 1:=by rw [rangeSize_one];split<;>omega
   show IsRangeIter _ _ (lo+((0:Nat):Int) * 1) ((((hi - lo).toNat:Nat):Int) - ((0:Nat):Int)) 1
   rw [e1,e2]
   exact Heap.get?_push_size _ rfl
 · have e:b = (s.heap.push { cls:=.type "range",data:=.fields #[.int lo t,.int hi u,.int 1 v] }).objs.size:=by simpa using hb
   subst e
   exact I1.fpOk (Nat.le_refl _) (I1.hok.fresh (Nat.le_refl _))
def iRng1 (ta:TA):TI:=fun σ H R=>ta σ H fun vs H1=>∃ j:Int,vs = [.int j]∧-(2 ^ 62)≤j∧j < 2 ^ 62∧R (Itr 0 j.toNat) H1
def iRng2 (ta:TA):TI:=fun σ H R=>ta σ H fun vs H1=>∃ i j:Int,vs = [.int i,.int j]∧(-(2 ^ 62)≤i∧i < 2 ^ 62∧-(2 ^ 62)≤j∧j < 2 ^ 62)∧R (Itr i (j - i).toNat) H1
theorem pi_range1 {a:Expr} {ta:TA} {p pos:Pos} (hg:Gl X "range") (hm:X.mg "range" = none) (ha:PA X [a] ta) (hs:starEach [a] X.env = [(false,eval a X.env)]:=by rfl):PI X tg (.Call (.Name "range" p) [a] [] pos) (iRng1 ta):=by
 intro pins s σ H R I h
 refine Call_ (ld_blt I hg hm boot_range (PyProof.Rows.callWith_type1 (thn (ha pos pins s σ H _ I h) fun us s1 ⟨vs,H1,I1,r1,q1⟩=>?_) hs rfl))
 obtain ⟨j,e,q1,q2,q⟩:=q1
 subst e
 cases r1 with
 | cons r rr =>
   cases rr
   obtain ⟨t,rfl⟩:=r
   exact call_range_1 (range_it I1 (by omega) (by omega) q1 q2 (by simpa using q))
theorem pi_range2 {a b:Expr} {ta:TA} {p pos:Pos} (hg:Gl X "range") (hm:X.mg "range" = none) (ha:PA X [a,b] ta) (hs:starEach [a,b] X.env = [(false,eval a X.env),(false,eval b X.env)]:=by rfl) (hs2:starEach [b] X.env = [(false,eval b X.env)]:=by rfl) :
 PI X tg (.Call (.Name "range" p) [a,b] [] pos) (iRng2 ta):=by
 intro pins s σ H R I h
 refine Call_ (ld_blt I hg hm boot_range (PyProof.Rows.callWith_type1 (thn (ha pos pins s σ H _ I h) fun us s1 ⟨vs,H1,I1,r1,q1⟩=>?_) (by rw [hs,hs2]) (by rw [hs2];rfl)))
 obtain ⟨i,j,e,⟨q1,q2,q3,q4⟩,q⟩:=q1
 subst e
 cases r1 with
 | cons r rr =>
   cases rr with
   | cons r' rr =>
     cases rr
     obtain ⟨t,rfl⟩:=r
     obtain ⟨t',rfl⟩:=r'
     exact call_range_2 (range_it I1 q1 q2 q3 q4 q)
def tFor (wi:TI) (g:TG) (tb:TS):TS:=fun D σ H=>wi σ H fun J H1=>∃ W:Nat→Nat→St→Hp→Prop,(∃ m,W 0 m σ H1)∧∀ i m σ H,W i m σ H →
 (J.stop i H∧D.nx σ H)∨(J.go i H∧∃ N:St→Hp→Prop,(∀ σ' H',N σ' H'→∃ m',m' < m∧W (i+1) m' σ' H')∧∀ x H',J.yld i H x H'→g x σ H' fun σ2 H2=>tb { D with nx:=N,ct:=N,bk:=D.nx } σ2 H2)
def pinsAt (fp:List Addr) (h:Heap):List (Addr × Obj):=fp.filterMap fun b=>(h.get? b).map fun o=>(b,o)
theorem mem_pinsAt {fp:List Addr} {h:Heap} {b:Addr} {o:Obj} (hb:b∈fp) (e:h.get? b = some o):(b,o)∈pinsAt fp h:=List.mem_filterMap.mpr ⟨b,hb,by rw [e];rfl⟩
theorem of_pinsAt {fp:List Addr} {h:Heap} {p:Addr × Obj} (hp:p∈pinsAt fp h):p.1∈fp∧h.get? p.1 = some p.2:=by
 obtain ⟨b,hb,e⟩:=List.mem_filterMap.mp hp
 cases q:h.get? b with
 | none=>rw [q] at e;cases e
 | some o =>
   rw [q] at e
   have e':(b,o) = p:=Option.some.inj e
   subst e'
   exact ⟨hb,q⟩
theorem Inv.pinned {pins:List (Addr × Obj)} {σ:St} {H:Hp} {s:Shared} {fp:List Addr} (I:Inv X pins σ H s) (hf:∀ b∈fp,FpOk X pins H b) (ho:∀ b∈fp,∃ o,s.heap.get? b = some o∧∀ v,o.data≠.cell v):Inv X (pins++pinsAt fp s.heap) σ H s :=
 I.pins_of fun p hp=>(List.mem_append.mp hp).elim (fun z=>I.pin p (List.mem_append_right _ z)) fun z=>by
  obtain ⟨hb,e⟩:=of_pinsAt z
  obtain ⟨f0,f1,f2,_⟩:=hf p.1 hb
  obtain ⟨o,e',d⟩:=ho p.1 hb
  rw [e] at e';cases e'
  exact ⟨e,f0,f1,f2,d⟩
theorem Inv.unpinned {pins pl:List (Addr × Obj)} {σ:St} {H:Hp} {s:Shared} (I:Inv X (pins++pl) σ H s):Inv X pins σ H s:=I.pins_of fun p hp=>I.pin p (List.mem_append_right _ (List.mem_append_left _ hp))
theorem ps_for {iter:Expr} {body:List Stmt} {wi:TI} {g:TG} {tb:TS} {pos:Pos} (hp:PassesOwn (model X.prog X.w) X.A X.env X.xe) (hc:X.calm = true) (hi:PI X tg iter wi) (hg:PG X tg g) (hb:PSs X body tb)
 (hs:∀ x,foldedSetIterable iter X.env x = pure x:=by intro _;rfl):PS X (.For tg iter body [] pos) (tFor wi g tb):=by
 intro pins s σ H D I h
 refine wpAny_For (thn (hi pins s σ H _ I h) fun v s1 h1=>thn h1 fun itv s2 h2=>?_) hs
 obtain ⟨it,fp,tn,J,H2,e,I2,T,st2,f2,W,⟨m0,w0⟩,turn⟩:=h2
 subst e
 -- what stays true of the iterator's objects through the loop
 have stat:∀ {H':Hp},(∀ b∈fp,H' b = none)→∀ b∈fp,FpOk X pins H' b:=fun hn b hb=>⟨hn b hb,(f2 b hb).2⟩
 refine codeAny_forLoop_any (fun n s'=>∃ i σ' H',Inv X pins σ' H' s'∧tn i s'.heap∧(∀ b∈fp,H' b = none)∧W i n σ' H') ?_ m0 ⟨0,σ,H2,I2,st2,fun b hb=>(f2 b hb).1,w0⟩
 rintro n s3 ⟨i,σ3,H3,I3,st3,fr3,w3⟩
 rcases turn i n σ3 H3 w3 with ⟨stop,qn⟩ | ⟨go,N,hN,step⟩
 · refine wpAny_passesOwn hp (thn (T.done X rfl rfl rfl hc i pins s3 σ3 H3 X.xe I3 (stat fr3) st3 stop) fun r s4 ⟨hr,I4⟩=>?_)
   subst hr
   exact wpAny_execs_nil ⟨σ3,H3,I4,qn⟩
 · refine wpAny_passesOwn hp (thn (T.item X rfl rfl rfl hc i pins s3 σ3 H3 X.xe I3 (stat fr3) st3 go) fun r s4 ⟨u,hr,h4⟩=>?_)
   subst hr
   refine wpAny_passesOwn hp (thn h4 fun _ s5 ⟨x,H5,I5,r5,y5,st5,fr5⟩=>?_)
   have I5':=I5.pinned (stat fr5) (T.obj _ _ st5)
   refine wpAny_passesOwn hp (thn (hg _ s5 σ3 H5 x u _ I5' r5 (step x H5 y5)) fun _ s6 ⟨σ6,H6,I6,q6⟩=>?_)
   refine wpAny_passesOwn hp (thn (hb _ s6 σ6 H6 _ I6 q6) fun f s7 q7=>?_)
   have again:∀ {σ7:St} {H7:Hp},Inv X (pins++pinsAt fp s5.heap) σ7 H7 s7→N σ7 H7→∃ m,m < n∧∃ i σ' H',Inv X pins σ' H' s7∧tn i s7.heap∧(∀ b∈fp,H' b = none)∧W i m σ' H':=fun {σ7 H7} I7 n7=>by
    obtain ⟨m',hm,w7⟩:=hN σ7 H7 n7
    refine ⟨m',hm,i+1,σ7,H7,I7.unpinned,T.keep _ _ _ st5 fun b hb o e=>(I7.pin (b,o) (List.mem_append_right _ (List.mem_append_right _ (mem_pinsAt hb e)))).1,fun b hb=>?_,w7⟩
    obtain ⟨o,e,d⟩:=T.obj _ _ st5 b hb
    exact (I7.pin (b,o) (List.mem_append_right _ (List.mem_append_right _ (mem_pinsAt hb e)))).2.1
   cases f with
   | next=>obtain ⟨σ7,H7,I7,n7⟩:=q7;exact again I7 n7
   | cont=>obtain ⟨σ7,H7,I7,n7⟩:=q7;exact again I7 n7
   | brk=>obtain ⟨σ7,H7,I7,q7⟩:=q7;exact ⟨σ7,H7,I7.unpinned,q7⟩
   | ret v=>obtain ⟨x7,σ7,H7,I7,r7,q7⟩:=q7;exact ⟨x7,σ7,H7,I7.unpinned,r7,q7⟩
end
end L2
namespace L2
open PySem PySem.Spec PyProof.Rows
abbrev R2:=V→V→Hp→VK→Prop
def OpR (X:Cx) (f:Value→Value→Sem Value) (r:R2):Prop :=
 ∀ (pins:List (Addr × Obj)) (s:Shared) (σ:St) (H:Hp) (x y:V) (v u:Value) (Q:VK),Inv X pins σ H s→RelV x v→RelV y u→r x y H Q →
  wpAny (model X.prog X.w) X.A (f v u) (EP X pins σ Q) X.xe s
def UnR (X:Cx) (f:Value→Sem Value) (r:V→Hp→VK→Prop):Prop :=
 ∀ (pins:List (Addr × Obj)) (s:Shared) (σ:St) (H:Hp) (x:V) (v:Value) (Q:VK),Inv X pins σ H s→RelV x v→r x H Q →
  wpAny (model X.prog X.w) X.A (f v) (EP X pins σ Q) X.xe s
def CallR (X:Cx) (f:Value) (r:List V→Hp→VK→Prop):Prop :=
 ∀ (pins:List (Addr × Obj)) (s:Shared) (σ:St) (H:Hp) (xs:List V) (us:List Value) (Q:VK),Inv X pins σ H s→Vals xs us→r xs H Q →
  wpAny (model X.prog X.w) X.A (call f us) (EP X pins σ Q) X.xe s
def TruR (X:Cx) (r:V→Hp→(Bool→Hp→Prop)→Prop):Prop :=
 ∀ (pins:List (Addr × Obj)) (s:Shared) (σ:St) (H:Hp) (x:V) (v:Value) (Q:Bool→Hp→Prop),Inv X pins σ H s→RelV x v→r x H Q →
  wpAny (model X.prog X.w) X.A (truthy v) (TP X pins σ Q) X.xe s
def tOp (r:R2) (ta tb:TE):TE:=fun σ H Q=>ta σ H fun x H1=>tb σ H1 fun y H2=>r x y H2 Q
def tUn (r:V→Hp→VK→Prop) (ta:TE):TE:=fun σ H Q=>ta σ H fun x H1=>r x H1 Q
def rI (C:Int→Int→Prop) (g:Int→Int→V):R2:=fun x y H Q=>∃ i j,x = .int i∧y = .int j∧C i j∧Q (g i j) H
def rI0 (g:Int→Int→V):R2:=fun x y H Q=>∃ i j,x = .int i∧y = .int j∧Q (g i j) H
def rU (g:Int→V):V→Hp→VK→Prop:=fun x H Q=>∃ i,x = .int i∧Q (g i) H
section
variable {X:Cx} {a b c:Expr} {ta tb tc:TE} {pos:Pos}
theorem binT (ha:PE X a ta) (hb:PE X b tb) {pins:List (Addr × Obj)} {s:Shared} {σ:St} {H:Hp} {R:V→V→Hp→Prop} (I:Inv X pins σ H s)
 (h:ta σ H fun x H1=>tb σ H1 fun y H2=>R x y H2) {Q:Value→Shared→Prop} {f:Value→Value→Sem Value}
 (hf:∀ v u s2 x y H2,Inv X pins σ H2 s2→RelV x v→RelV y u→R x y H2→wpAny (model X.prog X.w) X.A (f v u) Q X.xe s2) :
 wpAny (model X.prog X.w) X.A (eval a X.env) (fun v s₁=>wpAny (model X.prog X.w) X.A (eval b X.env) (fun u s₂=>wpAny (model X.prog X.w) X.A (f v u) Q X.xe s₂) X.xe s₁) X.xe s:=by
 refine thn (ha pins s σ H _ I h) fun v s1 ⟨x,H1,I1,r1,q1⟩=>?_
 refine thn (hb pins s1 σ H1 _ I1 q1) fun u s2 ⟨y,H2,I2,r2,q2⟩=>?_
 exact hf v u s2 x y H2 I2 r1 r2 q2
theorem pe_op {op:Operator} {r:R2} (ho:OpR X (binaryOp op) r) (ha:PE X a ta) (hb:PE X b tb):PE X (.BinOp a op b pos) (tOp r ta tb):=by
 intro pins s σ H Q I h
 exact wpAny_BinOp (binT ha hb I h fun v u s2 x y H2 I2 rx ry q=>ho pins s2 σ H2 x y v u Q I2 rx ry q)
theorem pe_un {op:UnaryOp} {r:V→Hp→VK→Prop} (ho:UnR X (unaryOp op) r) (ha:PE X a ta):PE X (.UnaryOp op a pos) (tUn r ta):=by
 intro pins s σ H Q I h
 exact UnaryOp_ (thn (ha pins s σ H _ I h) fun v s1 ⟨x,H1,I1,r1,q1⟩=>ho pins s1 σ H1 x v Q I1 r1 q1)
theorem opI {f:Value→Value→Sem Value} {C:Int→Int→Prop} {g:Int→Int→Int}
 (rule:∀ (i j:Int) (t u:Tok) (s:Shared) (Q:Value→Shared→Prop) (E:Value→Shared→Prop),C i j→Q (.int (g i j) s.toks) { s with toks:=s.toks+1 }→wpAny (model X.prog X.w) X.A (f (.int i t) (.int j u)) Q E s) :
 OpR X f (rI C fun i j=>.int (g i j)):=by
 intro pins s σ H x y v u Q I rx ry h
 obtain ⟨i,j,rfl,rfl,hc,q⟩:=h
 obtain ⟨t,rfl⟩:=rx
 obtain ⟨t',rfl⟩:=ry
 exact rule i j t t' s _ _ hc ⟨.int (g i j),H,I.tok _,⟨_,rfl⟩,q⟩
theorem opI0 {f:Value→Value→Sem Value} {g:Int→Int→Int}
 (rule:∀ (i j:Int) (t u:Tok) (s:Shared) (Q:Value→Shared→Prop) (E:Value→Shared→Prop),Q (.int (g i j) s.toks) { s with toks:=s.toks+1 }→wpAny (model X.prog X.w) X.A (f (.int i t) (.int j u)) Q E s) :
 OpR X f (rI0 fun i j=>.int (g i j)):=by
 intro pins s σ H x y v u Q I rx ry h
 obtain ⟨i,j,rfl,rfl,q⟩:=h
 obtain ⟨t,rfl⟩:=rx
 obtain ⟨t',rfl⟩:=ry
 exact rule i j t t' s _ _ ⟨.int (g i j),H,I.tok _,⟨_,rfl⟩,q⟩
theorem opB0 {f:Value→Value→Sem Value} {g:Int→Int→Bool}
 (rule:∀ (i j:Int) (t u:Tok) (s:Shared) (Q:Value→Shared→Prop) (E:Value→Shared→Prop),Q (.bool (g i j)) s→wpAny (model X.prog X.w) X.A (f (.int i t) (.int j u)) Q E s) :
 OpR X f (rI0 fun i j=>.bl (g i j)):=by
 intro pins s σ H x y v u Q I rx ry h
 obtain ⟨i,j,rfl,rfl,q⟩:=h
 obtain ⟨t,rfl⟩:=rx
 obtain ⟨t',rfl⟩:=ry
 exact rule i j t t' s _ _ ⟨.bl (g i j),H,I,rfl,q⟩
def CPow (i j:Int):Prop:=0≤j∧j≤1000000∧i.natAbs < 2 ^ 64
theorem op_add:OpR X (binaryOp .Add) (rI0 fun i j=>.int (i+j)):=opI0 fun _ _ _ _ _ _ _ q=>add_int q
theorem op_sub:OpR X (binaryOp .Sub) (rI0 fun i j=>.int (i - j)):=opI0 fun _ _ _ _ _ _ _ q=>sub_int q
theorem op_mod:OpR X (binaryOp .Mod) (rI (fun _ j=>0 < j) fun i j=>.int (i % j)):=opI fun i j _ _ _ _ _ hc q=>by
 have h1:(0:Int) < j:=hc
 exact mod_int' (by omega) (by rw [Int.fmod_eq_emod_of_nonneg i (by omega)];exact q)
theorem op_pow:OpR X (binaryOp .Pow) (rI CPow fun i j=>.int (i ^ j.toNat)):=opI fun _ _ _ _ _ _ _ hc q=>pow_int_small hc.1 hc.2.1 hc.2.2 q
theorem unI {f:Value→Sem Value} {g:Int→Int}
 (rule:∀ (i:Int) (t:Tok) (s:Shared) (Q:Value→Shared→Prop) (E:Value→Shared→Prop),Q (.int (g i) s.toks) { s with toks:=s.toks+1 }→wpAny (model X.prog X.w) X.A (f (.int i t)) Q E s) :
 UnR X f (rU fun i=>.int (g i)):=by
 intro pins s σ H x v Q I rx h
 obtain ⟨i,rfl,q⟩:=h
 obtain ⟨t,rfl⟩:=rx
 exact rule i t s _ _ ⟨.int (g i),H,I.tok _,⟨_,rfl⟩,q⟩
theorem un_neg:UnR X (unaryOp .USub) (rU fun i=>.int (-i)):=unI fun _ _ _ _ _ q=>neg_int q
end
def scal:V→V→Bool
 | .non,.non=>true | .non,.int _=>true | .int _,.non=>true | .non,.bl _=>true | .bl _,.non=>true | .non,.str _=>true | .str _,.non=>true
 | .int _,.int _=>true | .bl _,.bl _=>true | .str _,.str _=>true | .byt _,.byt _=>true
 | .int _,.str _=>true | .str _,.int _=>true | .bl _,.str _=>true | .str _,.bl _=>true
 | _,_=>false
def rEq:R2:=fun x y H Q=>scal x y = true∧Q (.bl (decide (x = y))) H
theorem dec_int {i j:Int}:decide (V.int i = V.int j) = (i == j):=by
 rw [Bool.eq_iff_iff]
 simp
theorem dec_bl {i j:Bool}:decide (V.bl i = V.bl j) = (i == j):=by
 rw [Bool.eq_iff_iff]
 simp
theorem dec_str {i j:Str}:decide (V.str i = V.str j) = (i == j):=by
 rw [Bool.eq_iff_iff]
 simp
theorem dec_byt {i j:Array UInt8}:decide (V.byt i = V.byt j) = (i.toList == j.toList):=by
 rw [Bool.eq_iff_iff]
 cases i
 cases j
 simp
section
variable {X:Cx} {a b c:Expr} {ta tb tc:TE} {pos:Pos}
theorem fin_bl {pins:List (Addr × Obj)} {σ:St} {H:Hp} {s:Shared} {Q:VK} {k k':Bool} (I:Inv X pins σ H s) (q:Q (.bl k) H) (e:k = k'):EP X pins σ Q (.bool k') s:=by
 subst e
 exact ⟨.bl k,H,I,rfl,q⟩
theorem op_eq:OpR X (compareOp .Eq) rEq:=by
 intro pins s σ H x y v u Q I rx ry h
 obtain ⟨hs,q⟩:=h
 cases x with
 | non =>
   cases rx
   cases y with
   | non=>cases ry;exact PySem.EqNone.eq_none_none (fin_bl I q (by simp))
   | bl j=>cases ry;exact PySem.EqNone.eq_none_bool (fin_bl I q (by simp))
   | int j=>obtain ⟨t',rfl⟩:=ry;exact PySem.EqNone.eq_none_int (fin_bl I q (by simp))
   | str j=>obtain ⟨t',rfl⟩:=ry;exact PySem.EqNone.eq_none_str (fin_bl I q (by simp))
   | _=>exact absurd (show false = true from hs) Bool.false_ne_true
 | bl i =>
   cases rx
   cases y with
   | non=>cases ry;exact PySem.EqNone.eq_bool_none (fin_bl I q (by simp))
   | bl j=>cases ry;exact eq_bool (fin_bl I q dec_bl)
   | str j=>obtain ⟨t',rfl⟩:=ry;exact PySem.EqMixed.eq_bool_str (fin_bl I q (by simp))
   | _=>exact absurd (show false = true from hs) Bool.false_ne_true
 | int i =>
   obtain ⟨t,rfl⟩:=rx
   cases y with
   | non=>cases ry;exact PySem.EqNone.eq_int_none (fin_bl I q (by simp))
   | int j=>obtain ⟨t',rfl⟩:=ry;exact eq_int (fin_bl I q dec_int)
   | str j=>obtain ⟨t',rfl⟩:=ry;exact PySem.EqMixed.eq_int_str (fin_bl I q (by simp))
   | _=>exact absurd (show false = true from hs) Bool.false_ne_true
 | str i =>
   obtain ⟨t,rfl⟩:=rx
   cases y with
   | non=>cases ry;exact PySem.EqNone.eq_str_none (fin_bl I q (by simp))
   | bl j=>cases ry;exact PySem.EqMixed.eq_str_bool (fin_bl I q (by simp))
   | int j=>obtain ⟨t',rfl⟩:=ry;exact PySem.EqMixed.eq_str_int (fin_bl I q (by simp))
   | str j=>obtain ⟨t',rfl⟩:=ry;exact eq_str (fin_bl I q dec_str)
   | _=>exact absurd (show false = true from hs) Bool.false_ne_true
 | byt i =>
   obtain ⟨t,rfl⟩:=rx
   cases y with
   | byt j=>obtain ⟨t',rfl⟩:=ry;exact PySem.W.eq_bytes (fin_bl I q dec_byt)
   | _=>exact absurd (show false = true from hs) Bool.false_ne_true
 | _=>cases y<;>exact absurd (show false = true from hs) Bool.false_ne_true
theorem op_gt:OpR X (compareOp .Gt) (rI0 fun i j=>.bl (decide (j < i))):=opB0 fun _ _ _ _ _ _ _ q=>gt_int q
theorem op_in_str:OpR X (compareOp .In) (fun x y H Q=>∃ i j,x = .str i∧y = .str j∧Q (.bl (!(Builtin.Str.occurrences j i 0 j.length 1).isEmpty)) H):=by
 intro pins s σ H x y v u Q I rx ry h
 obtain ⟨i,j,rfl,rfl,q⟩:=h
 obtain ⟨t,rfl⟩:=rx
 obtain ⟨t',rfl⟩:=ry
 exact in_str (fin_bl I q rfl)
theorem OpR.or {f:Value→Value→Sem Value} {r r':R2} (h:OpR X f r) (h':OpR X f r'):OpR X f (fun x y H Q=>r x y H Q∨r' x y H Q):=by
 intro pins s σ H x y v u Q I rx ry q
 rcases q with q | q
 · exact h pins s σ H x y v u Q I rx ry q
 · exact h' pins s σ H x y v u Q I rx ry q
theorem pe_cmpR {op:CmpOp} {r:R2} (ho:OpR X (compareOp op) r) (ha:PE X a ta) (hb:PE X b tb) (hm:behindInMarks op b = false):PE X (.Compare a [op] [b] pos) (tOp r ta tb):=by
 intro pins s σ H Q I h
 exact wpAny_Compare1 (binT ha hb I h fun v u s2 x y H2 I2 rx ry q=>ho pins s2 σ H2 x y v u Q I2 rx ry q) hm
def tTest (t:TE):TT:=fun σ H Q=>t σ H fun x H'=>∃ k,x = .bl k∧Q k H'
theorem pt_cmpR {op:CmpOp} {r:R2} (ho:OpR X (compareOp op) r) (ha:PE X a ta) (hb:PE X b tb) (hm:behindInMarks op b = false):PT X (.Compare a [op] [b] pos) (tTest (tOp r ta tb)):=by
 intro pins s σ H Q I h
 refine wpAny_isTrue_Compare1 (thn (ha pins s σ H _ I h) fun v s1 ⟨x,H1,I1,r1,q1⟩=>thn (hb pins s1 σ H1 _ I1 q1) fun u s2 ⟨y,H2,I2,r2,q2⟩ =>
  thn (ho pins s2 σ H2 x y v u _ I2 r1 r2 q2) fun c s3 ⟨z,H3,I3,r3,k,e,q3⟩=>?_) hm
 subst e
 cases r3
 exact wpAny_truthy_bool ⟨H3,I3,q3⟩
def TruV (K:PySem.W.Frag) (x:V) (H:Hp) (k:Bool):Prop :=
 match x with
 | .non=>k = false
 | .bl b=>k = b
 | .int i=>k = (i != 0)
 | .str y=>y.length≤sizeLine∧k = ((y.length:Int) != 0)
 | .byt y=>y.size≤sizeLine∧k = ((y.size:Int) != 0)
 | .ref p=>(∃ xs,SqL K H p xs∧k = !xs.isEmpty)∨(∃ xs,SqT K H p xs∧k = !xs.isEmpty)∨∃ kvs,H p = some (.dK kvs)∧k = !kvs.isEmpty
 | _=>False
theorem isEmpty_kv {κ:Type} {kvs:List (κ × V)} {vs:List (κ × Value)} (r:KV kvs vs):(!vs.isEmpty) = !kvs.isEmpty:=by
 cases r<;>rfl
theorem isEmpty_of {xs:List V} {its:List Value} (r:Vals xs its):(!its.toArray.isEmpty) = !xs.isEmpty:=by
 cases r<;>simp
theorem line63:(sizeLine:Nat) < 2 ^ 63:=by rw [sizeLine_eq];decide
theorem tru_ok:TruR X (fun x H Q=>∃ k,TruV X.K x H k∧Q k H):=by
 intro pins s σ H x v Q I rx h
 obtain ⟨k,e,q⟩:=h
 have hl:=line63
 have hs:sizeLine = 16777216:=sizeLine_eq
 cases x with
 | non =>
   cases rx
   have e':k = false:=e
   subst e'
   exact truthy_none ⟨H,I,q⟩
 | bl b =>
   cases rx
   have e':k = b:=e
   subst e'
   exact wpAny_truthy_bool ⟨H,I,q⟩
 | int i =>
   obtain ⟨t,rfl⟩:=rx
   have e':k = (i != 0):=e
   subst e'
   exact PySem.P.truthy_int ⟨H,I,q⟩
 | str y =>
   obtain ⟨t,rfl⟩:=rx
   obtain ⟨hy,e'⟩:y.length≤sizeLine∧k = ((y.length:Int) != 0):=e
   subst e'
   exact PySem.P.truthy_str (by omega) ⟨H,I.tok _,q⟩
 | byt y =>
   obtain ⟨t,rfl⟩:=rx
   obtain ⟨hy,e'⟩:y.size≤sizeLine∧k = ((y.size:Int) != 0):=e
   subst e'
   exact PySem.W.truthy_bytes (by omega) ⟨H,I.tok _,q⟩
 | ref p =>
   cases rx
   have e':(∃ xs,SqL X.K H p xs∧k = !xs.isEmpty)∨(∃ xs,SqT X.K H p xs∧k = !xs.isEmpty)∨∃ kvs,H p = some (.dK kvs)∧k = !kvs.isEmpty:=e
   rcases e' with ⟨xs,hx,e'⟩ | ⟨xs,hx,e'⟩ | ⟨kvs,hx,e'⟩
   · subst e'
     obtain ⟨its,r,pl,hz⟩:=I.list hx
     have hlen:=r.length
     exact wpAny_truthy_list pl.isList (by simp only [List.size_toArray];omega) ⟨H,I.tok _,by rw [isEmpty_of r];exact q⟩
   · subst e'
     obtain ⟨its,r,pl,hz⟩:=I.tuple hx
     have hlen:=r.length
     exact truthy_tuple pl (by simp only [List.size_toArray];omega) ⟨H,I.tok _,by rw [isEmpty_of r];exact q⟩
   · subst e'
     obtain ⟨hz,hS,vs,r,m⟩:kvs.length≤sizeLine∧(p == sysModules) = false∧∃ vs,KV kvs vs∧s.heap.DictOf (mixKind X.prog X.w) p vs:=I.hok p _ hx
     have hlen:kvs.length = vs.length:=Paired.length r
     exact wpAny_truthy_dict hS m (by omega) ⟨H,I.tok _,by rw [isEmpty_kv r];exact q⟩
 | _=>exact (show False from e).elim
theorem pt_truth (ha:PE X a ta) (he:∀ whole,isTrue a X.env whole = (do let v ← whole;standAt a.pos;holding [v] (truthy v))) :
 PT X a (fun σ H Q=>ta σ H fun x H'=>∃ k,TruV X.K x H' k∧Q k H'):=by
 intro pins s σ H Q I h
 exact isTrue_plain (thn (ha pins s σ H _ I h) fun v s1 ⟨x,H1,I1,r1,q1⟩=>tru_ok pins s1 σ H1 x v Q I1 r1 q1) (he _)
theorem op_add_str:OpR X (binaryOp .Add) (fun x y H Q=>∃ i j,x = .str i∧y = .str j∧i.length+j.length≤sizeLine∧Q (.str (i++j)) H):=by
 intro pins s σ H x y v u Q I rx ry h
 obtain ⟨i,j,rfl,rfl,hz,q⟩:=h
 obtain ⟨t,rfl⟩:=rx
 obtain ⟨t',rfl⟩:=ry
 exact add_str (fun t' tk=>⟨.str (i++j),H,I.tok _,⟨_,rfl⟩,q⟩) hz
theorem vals1 {x:V} {us:List Value} (r:Vals [x] us):∃ u,us = [u]∧RelV x u:=by
 cases r with
 | cons r1 r2=>cases r2;exact ⟨_,rfl,r1⟩
theorem vals2 {x y:V} {us:List Value} (r:Vals [x,y] us):∃ u w',us = [u,w']∧RelV x u∧RelV y w':=by
 cases r with
 | cons r1 r2 =>
   cases r2 with
   | cons r3 r4=>cases r4;exact ⟨_,_,rfl,r1,r3⟩
theorem call_max2 (hc:X.calm = true):CallR X (.builtin "max") (fun xs H Q=>∃ i j,xs = [.int i,.int j]∧Q (.int (if j > i then j else i)) H):=by
 intro pins s σ H xs us Q I r h
 obtain ⟨i,j,rfl,q⟩:=h
 obtain ⟨u,w',rfl,⟨t,rfl⟩,⟨t',rfl⟩⟩:=vals2 r
 refine max_two_ints (I.ok.hd hc) fun h' tk k=>⟨_,H,I.kept k,?_,q⟩
 by_cases hj:j > i
 · rw [if_pos hj,if_pos hj];exact ⟨_,rfl⟩
 · rw [if_neg hj,if_neg hj];exact ⟨_,rfl⟩
theorem call_min2 (hc:X.calm = true):CallR X (.builtin "min") (fun xs H Q=>∃ i j,xs = [.int i,.int j]∧Q (.int (if j < i then j else i)) H):=by
 intro pins s σ H xs us Q I r h
 obtain ⟨i,j,rfl,q⟩:=h
 obtain ⟨u,w',rfl,⟨t,rfl⟩,⟨t',rfl⟩⟩:=vals2 r
 refine min_two_ints (I.ok.hd hc) fun h' tk k=>⟨_,H,I.kept k,?_,q⟩
 by_cases hj:j < i
 · rw [if_pos hj,if_pos hj];exact ⟨_,rfl⟩
 · rw [if_neg hj,if_neg hj];exact ⟨_,rfl⟩
theorem call_int1:CallR X (.type "int") (fun xs H Q=>(∃ i,xs = [.int i]∧Q (.int i) H)∨∃ k,xs = [.bl k]∧Q (.int (if k then 1 else 0)) H):=by
 intro pins s σ H xs us Q I r h
 rcases h with ⟨i,rfl,q⟩ | ⟨k,rfl,q⟩
 · obtain ⟨u,rfl,t,rfl⟩:=vals1 r
   exact call_int_int ⟨.int i,H,I,⟨_,rfl⟩,q⟩
 · obtain ⟨u,rfl,r1⟩:=vals1 r
   cases r1
   exact call_int_bool ⟨.int (if k then 1 else 0),H,I.tok _,⟨_,rfl⟩,q⟩
theorem call_str_int:CallR X (.type "str") (fun xs H Q=>∃ i,xs = [.int i]∧i.natAbs.log2 < 1920∧Q (.str (toString i)) H):=by
 intro pins s σ H xs us Q I r h
 obtain ⟨i,rfl,hz,q⟩:=h
 obtain ⟨u,rfl,t,rfl⟩:=vals1 r
 exact PySem.P.str_of_int hz ⟨.str _,H,I.tok _,⟨_,rfl⟩,q⟩
end
end L2
namespace L2
open PySem PySem.Spec PyProof.Rows
structure ObjM (h:Heap) (x dx C:Addr) (mA:Str→Option Value):Prop where
 obj:h.get? x = some (PySem.W.instObj C dx)
 ns:h.Ns1 dx mA
 ne:dx≠x
section
variable {prog:Program} {w:World} {A:Around} {E:Value→Shared→Prop} {s:Shared} {K:PySem.W.Frag} {x dx C f:Addr} {mA:Str→Option Value} {name:Str} {v:Value}
end
section
variable {P:Program} {w:World} {H H':Hp} {h h':Heap} {a C dx:Addr} {fs fs':List (Str × V)}
end
structure Cls (K:PySem.W.Frag) (C:Addr):Prop where
 pg:PySem.W.plainGet K C Str.empty = true
 hd:PySem.W.hasDictIn K C = true
 po:PySem.W.plainOver K C = true
 sa:PySem.W.findIn K (.ref C) "__setattr__" = some (some (.builtin "object.__setattr__"))
structure Con (K:PySem.W.Frag) (C:Addr) (f:Str) (v:V) (u:Value):Prop where
 at_:PySem.W.findIn K (.ref C) f = some (some u)
 rel:RelV v u
 get:PySem.W.specialIn K u "__get__" = some none
 cp:PySem.W.copiedNames.contains f = false
structure Meth (K:PySem.W.Frag) (C:Addr) (m:Str) (f:Addr):Prop where
 at_:PySem.W.findIn K (.ref C) m = some (some (.ref f))
 fn:PySem.W.isFn K (.ref f) = true
 kp:PySem.W.keepIn K (.ref f) = true
section
variable {X:Cx} {pins:List (Addr × Obj)} {σ:St} {H:Hp} {s:Shared} {a C dx:Addr} {fs:List (Str × V)} {f:Str} {v:V} {A:Around} {E:Value→Shared→Prop}
end
section
variable {X:Cx} {o e value:Expr} {f:Str} {pos pos' tpos:Pos} {ta tv:TE}
end
section
variable {X:Cx} {pins:List (Addr × Obj)} {σ:St} {H:Hp} {s:Shared} {A:Around} {E:Value→Shared→Prop} {Q:Value→Shared→Prop} {c:Value} {b:Bool}
inductive TyOf (K:PySem.W.Frag) (H:Hp):V→Value→Prop where
 | non:TyOf K H .non (.type "NoneType")
 | bl (x:Bool):TyOf K H (.bl x) (.type "bool")
 | int (i:Int):TyOf K H (.int i) (.type "int")
 | str (x:Str):TyOf K H (.str x) (.type "str")
 | flt (x:UInt64):TyOf K H (.flt x) (.type "float")
 | lst {a:Addr} {xs:List V} (e:H a = some (.lst xs)):TyOf K H (.ref a) (.type "list")
 | frz {a:Addr} {o:Obj} {xs:List V} (e:H a = some (.frz o (.lst xs))):TyOf K H (.ref a) (.type "list")
 | tup {a:Addr} {xs:List V} (e:H a = some (.tup xs)):TyOf K H (.ref a) (.type "tuple")
 | dK {a:Addr} {kvs:List (Key × V)} (e:H a = some (.dK kvs)):TyOf K H (.ref a) (.type "dict")
 | dT {a:Addr} {kvs:List (List Key × V)} (e:H a = some (.dT kvs)):TyOf K H (.ref a) (.type "dict")
 | ins {a C dx:Addr} {fs:List (Str × V)} (e:H a = some (.ins C dx fs)) (cl:Cls K C) (ha:PySem.W.findIn K (.ref C) "__class__" = some (some (.builtin "object.__class__")))
    (hn:PySem.W.specialIn K (.builtin "object.__class__") "__get__" = some (some (.builtin "getset_descriptor.__get__"))) (htk:PySem.W.takesIn K (.builtin "object.__class__") = some true)
    (hm:PySem.W.mroIn K C (.type "object") = some true):TyOf K H (.ref a) (.ref C)
end
end L2
namespace L2
open PySem PySem.Spec PyProof.Rows
structure Room (k:Nat) (A:Around):Prop where
 hd:A.handled = none
 dp:A.depth+3 * k+5 < recursionLimit
 un:A.units+16 * k+200 < cLine
theorem Room.deeper {k:Nat} {A:Around} (r:Room (k+1) A) (env:Env):Room k (A.deeper env) :=
 ⟨r.hd,by have:=r.dp;show A.depth+1+3 * k+5 < _;omega,by have:=r.un;show A.units+3+16 * k+200 < _;omega⟩
theorem Room.depth {k:Nat} {A:Around} (r:Room k A):A.depth < recursionLimit:=by have:=r.dp;omega
def tNil:TA:=fun _ H Q=>Q [] H
def tCons (ta:TE) (tr:TA):TA:=fun σ H Q=>ta σ H fun x H1=>tr σ H1 fun xs H2=>Q (x::xs) H2
section
variable {X:Cx} {e:Expr} {es:List Expr} {te:TE} {t:TA} {pos:Pos}
theorem pa_nil:PA X [] tNil:=fun _ _ _ _ H Q I h=>Calls.spliced_nil ⟨[],H,I,.nil,h⟩
theorem pa_cons (ha:PE X e te) (hr:PA X es t) (hs:starEach (e::es) X.env = (false,eval e X.env)::starEach es X.env:=by rfl):PA X (e::es) (tCons te t):=by
 intro pos pins s σ H Q I h
 rw [hs]
 show wpAny _ _ (spliced ((false,eval e X.env)::backTo pos (starEach es X.env))) _ _ s
 refine Calls.spliced_cons (thn (ha pins s σ H _ I h) fun u s1 ⟨x,H1,I1,r1,q1⟩=>?_)
 exact thn (hr pos pins s1 σ H1 _ I1 q1) fun us s2 ⟨xs,H2,I2,r2,q2⟩=>⟨x::xs,H2,I2,.cons r1 r2,q2⟩
def tTup (t:TA):TE:=fun σ H Q=>t σ H fun xs H1=>xs.length≤sizeLine∧∀ p,H1 p = none→Q (.ref p) (upd H1 p (.tup xs))
def tLst (t:TA):TE:=fun σ H Q=>t σ H fun xs H1=>xs.length≤sizeLine∧∀ p,H1 p = none→Q (.ref p) (upd H1 p (.lst xs))
theorem pe_tup {x1} (h:PA X es t):PE X (.Tuple es x1 pos) (tTup t):=by
 intro pins s σ H Q I hq
 refine wpAny_Tuple_spliced (thn (h pos pins s σ H _ I hq) fun us s1 ⟨xs,H1,I1,r,z,q⟩=>⟨by rw [← r.length];exact z,?_⟩)
 have hf:H1 s1.heap.objs.size = none:=I1.hok.fresh (Nat.le_refl _)
 refine ⟨.ref s1.heap.objs.size,upd H1 s1.heap.objs.size (.tup xs),I1.laid (t':=s1.toks) (fun b u e=>Heap.get?_push_of_some _ e) (Nat.le_refl _) ?_,rfl,q _ hf⟩
 exact ⟨z,us,r,⟨_,Heap.get?_push_size _ rfl,rfl,_,rfl⟩⟩
theorem pe_lst (h:PA X es t):PE X (.List es pos) (tLst t):=by
 intro pins s σ H Q I hq
 refine wpAny_List_spliced (thn (h pos pins s σ H _ I hq) fun us s1 ⟨xs,H1,I1,r,z,q⟩=>⟨by rw [← r.length];exact z,?_⟩)
 have hf:H1 s1.heap.objs.size = none:=I1.hok.fresh (Nat.le_refl _)
 refine ⟨.ref s1.heap.objs.size,upd H1 s1.heap.objs.size (.lst xs),I1.laid (t':=s1.toks) (fun b u e=>Heap.get?_push_of_some _ e) (Nat.le_refl _) ?_,rfl,q _ hf⟩
 exact ⟨z,us,0,r,Heap.get?_push_size _ rfl⟩
end
abbrev Sp:=List V→Hp→VK→XK→Prop
abbrev CXT:=List Env→Hp→Shared→XK→Value→Shared→Prop
structure Env0 (P:Program) (w:World) (K:PySem.W.Frag) (mg:Str→Option Value) (base:Heap) (A:Around) (outer:List Env) (s:Shared) (H:Hp):Prop where
 frames:A.frames = some outer
 mod:Mod K mg base
 bs:∀ b o,base.get? b = some o→s.heap.get? b = some o∧H b = none
 bsz:base.objs.size≤s.heap.objs.size
 funs:s.heap.FunFrames base outer
 frf:∀ b∈frs outer,H b = none
 hok:HOk P w H s.heap
 bare:AllBare s.gens
def CE (outer:List Env) (P:Program) (w:World) (H:Hp) (s:Shared) (Q:VK) (u:Value) (s':Shared):Prop :=
 ∃ v H',s'.os = s.os∧AllBare s'.gens∧Un (frs outer) [] H H' s.heap s'.heap∧HOk P w H' s'.heap∧RelV v u∧Q v H'
def CR (CX:CXT) (outer:List Env) (P:Program) (w:World) (H:Hp) (s:Shared) (Q:VK) (E:XK) (r:Result) (s':Shared):Prop :=
 match r with
 | .ok (.ret u)=>CE outer P w H s Q u s'
 | .ok _=>False
 | .error e=>CX outer H s E e s'
structure FnOk (P:Program) (w:World) (K:PySem.W.Frag) (mg:Str→Option Value) (base:Heap) (CX:CXT) (k:Nat) (f:Addr) (fd:FuncData) (ps:List Str) (sp:Sp):Prop where
 len:∀ vs H Q E,sp vs H Q E→vs.length = ps.length
 run:∀ (A:Around) (outer:List Env) (s:Shared) (H:Hp) (args:Args) (us:List Value) (vs:List V) (Q:VK) (E:XK),Room k A→Env0 P w K mg base A outer s H→BindsTo s fd args (ps.zip us)→Vals vs us→sp vs H Q E →
  codeAny (model P w) A (.call (.ref f) args) (CR CX outer P w H s Q E) s
section
variable {X:Cx} {pins:List (Addr × Obj)} {σ:St} {H:Hp} {s s':Shared}
theorem Inv.env0 (I:Inv X pins σ H s):Env0 X.prog X.w X.K X.mg X.base X.A X.stack s H :=
 ⟨I.ok.frames,I.ok.mod,I.bs,Nat.le_trans I.ok.bsz I.sz,I.stack,I.stkFree,I.hok,I.bare⟩
theorem Inv.after {Q:VK} {u:Value} (I:Inv X pins σ H s) (h:CE X.stack X.prog X.w H s Q u s'):EP X pins σ Q u s':=by
 obtain ⟨v,H',os,bare,un,hok,r,q⟩:=h
 obtain ⟨hh,g,d,t,os'⟩:=s'
 obtain rfl:os' = s.os:=os
 exact ⟨v,H',I.call (h':=hh) (g':=g) (d':=d) (t':=t) (ch:=[]) un hok bare (fun b z=>absurd z (by simp)),r,q⟩
end
def tCall (sp:Sp) (dvs:List V) (E:XK) (t:TA):TE:=fun σ H Q=>t σ H fun vs H1=>sp (vs++dvs) H1 Q E
def Binds (K:PySem.W.Frag) (fd:FuncData) (ps:List Str) (ds:List Value):Prop :=
 ∀ (s:Shared) (us:List Value),K.In s.heap→(us++ds).length = ps.length→BindsTo s fd ⟨us,[]⟩ (ps.zip (us++ds))
theorem Binds.all {K:PySem.W.Frag} {fd:FuncData} {ps:List Str} (h:∀ us:List Value,us.length = ps.length→bindArgs fd ⟨us,[]⟩ = pure (ps.zip us)):Binds K fd ps []:=fun s us _ hl=>by
 rw [List.append_nil] at hl ⊢
 exact .of_eq (h us hl)
def Passes (CX:CXT) (X:Cx) (E:XK):Prop:=∀ (pins:List (Addr × Obj)) (σ:St) (H:Hp) (s:Shared) (e:Value) (s':Shared),Inv X pins σ H s→CX X.stack H s E e s'→X.xe e s'
section
variable {X:Cx} {CX:CXT} {k:Nat} {f C:Addr} {fd:FuncData} {ps:List Str} {sp:Sp} {dvs:List V} {ds:List Value} {E:XK} {x m:Str} {p pos apos:Pos} {e o:Expr} {es:List Expr} {ta:TE} {t:TA}
theorem run_fn {pins:List (Addr × Obj)} {σ:St} {H:Hp} {s:Shared} {Q:VK} {us:List Value} {vs:List V} (F:FnOk X.prog X.w X.K X.mg X.base CX k f fd ps sp) (hr:Room k X.A) (hb:Binds X.K fd ps ds) (hd:Vals dvs ds) (hx:Passes CX X E)
 (I:Inv X pins σ H s) (r:Vals vs us) (h:sp (vs++dvs) H Q E):wpAny (model X.prog X.w) X.A (call (.ref f) us) (EP X pins σ Q) X.xe s:=by
 have r2:Vals (vs++dvs) (us++ds):=r.append hd
 have hl:(us++ds).length = ps.length:=by rw [← r2.length];exact F.len _ _ _ _ h
 refine wpAny_call (codeAny_mono (F.run X.A X.stack s H ⟨us,[]⟩ (us++ds) (vs++dvs) Q E hr I.env0 (hb s us I.kIn hl) r2 h) fun r s' hq=>?_)
 cases r with
 | error e=>exact hx pins σ H s e s' I hq
 | ok fl =>
   cases fl with
   | ret u=>exact I.after hq
   | next=>exact False.elim hq
   | brk=>exact False.elim hq
   | cont=>exact False.elim hq
theorem pe_call (F:FnOk X.prog X.w X.K X.mg X.base CX k f fd ps sp) (hr:Room k X.A) (hg:Gl X x) (hm:X.mg x = some (.ref f)) (hk:PySem.W.keepIn X.K (.ref f) = true) (hb:Binds X.K fd ps ds) (hd:Vals dvs ds) (hx:Passes CX X E)
 (ha:PA X (e::es) t) (hdb:(x == ("__debug__":Str)) = false:=by decide) (he:starEach (e::es) X.env = (false,eval e X.env)::starEach es X.env:=by rfl) (hpl:(backTo pos (starEach es X.env)).any (·.1) = false:=by rfl) :
 PE X (.Call (.Name x p) (e::es) [] pos) (tCall sp dvs E t):=by
 intro pins s σ H Q I h
 refine wpAny_Call_Name_kw (ld_glob I hg hm ?_ hdb)
 refine PySem.W.callWith_K (h₀:=X.base) I.ok.mod.kin hk (thn (ha pos pins s σ H _ I h) fun us s1 ⟨vs,H1,I1,r,q⟩=>⟨I1.kIn,?_⟩) he hpl
 exact run_fn F hr hb hd hx I1 r q
structure Mk (K:PySem.W.Frag) (C f:Addr):Prop where
 makes:PySem.W.makesIn K C = true
 init:PySem.W.findIn K (.ref C) "__init__" = some (some (.ref f))
 fn:PySem.W.isFn K (.ref f) = true
 kp:PySem.W.keepIn K (.ref C) = true
end
section
variable {X:Cx} {CX:CXT} {k:Nat} {f C:Addr} {fd:FuncData} {ps ks:List Str} {sp:Sp} {E:XK} {x m:Str} {p pos apos kpos:Pos} {e o:Expr} {es:List Expr} {kws:List Keyword} {te ta:TE} {t tk:TA} {nm:Option Str}
structure KBinds (K:PySem.W.Frag) (fd:FuncData) (ps ks:List Str) (g:List Value→List Value→List Value) (gV:List V→List V→List V):Prop where
 to:∀ (s:Shared) (us ws:List Value),K.In s.heap→(g us ws).length = ps.length→BindsTo s fd ⟨us,ks.zip ws⟩ (ps.zip (g us ws))
 rel:∀ {vs:List V} {us:List Value} {zs:List V} {ws:List Value},Vals vs us→Vals zs ws→Vals (gV vs zs) (g us ws)
variable {g:List Value→List Value→List Value} {gV:List V→List V→List V}
end
structure FnScope (N P:List Str) (sc:Scope):Prop where
 kind:sc.kind = .function
 co:sc.isCoroutine = false
 gen:sc.isGenerator = false
 nd:N.Nodup
 pre:N.take P.length = P
 par:∀ x∈P,sc.names.lookup x = some .local∨sc.names.lookup x = some .cell
 nofree:∀ y∈sc.names,y.2≠.free
theorem bindL_out {kindOf:Str→Option NameKind} {x:Str}:∀ {binds:List (Str × Value)} {m:Str→Option Value},(∀ v,(x,v)∉binds)→bindL kindOf binds m x = m x
 | [],_,_=>rfl
 | (n,v)::r,m,h=>by
   unfold bindL
   rw [bindL_out fun w hw=>h w (List.mem_cons_of_mem _ hw)]
   split
   · have:x≠n:=by rintro rfl;exact h v List.mem_cons_self
     simp [this]
   · rfl
theorem bindC_out {kindOf:Str→Option NameKind} {x:Str}:∀ {binds:List (Str × Value)} {m:Str→Option Value},(∀ v,(x,v)∉binds)→bindC kindOf binds m x = m x
 | [],_,_=>rfl
 | (n,v)::r,m,h=>by
   unfold bindC
   rw [bindC_out fun w hw=>h w (List.mem_cons_of_mem _ hw)]
   split
   · rfl
   · have:x≠n:=by rintro rfl;exact h v List.mem_cons_self
     simp [this]
theorem bindL_get {kindOf:Str→Option NameKind} {x:Str} {v:Value}:∀ {P:List Str} {vs:List Value} {i:Nat} {m:Str→Option Value},P.Nodup→P[i]? = some x→vs[i]? = some v→kindOf x = some .local →
 bindL kindOf (P.zip vs) m x = some v
 | [],_,_,_,_,h,_,_=>by simp at h
 | _::_,[],_,_,_,_,h,_=>by simp at h
 | p::P,w::vs,0,m,nd,h1,h2,hk=>by
   simp at h1 h2;subst h1;subst h2
   show bindL kindOf ((p,w)::P.zip vs) m p = _
   unfold bindL
   rw [bindL_out fun v hv=>(List.nodup_cons.mp nd).1 (List.of_mem_zip hv).1,if_pos hk]
   simp
 | p::P,w::vs,i+1,m,nd,h1,h2,hk=>by
   show bindL kindOf ((p,w)::P.zip vs) m x = _
   unfold bindL
   exact bindL_get (i:=i) (List.nodup_cons.mp nd).2 (by simpa using h1) (by simpa using h2) hk
theorem bindC_get {kindOf:Str→Option NameKind} {x:Str} {v:Value}:∀ {P:List Str} {vs:List Value} {i:Nat} {m:Str→Option Value},P.Nodup→P[i]? = some x→vs[i]? = some v→kindOf x≠some .local →
 bindC kindOf (P.zip vs) m x = some v
 | [],_,_,_,_,h,_,_=>by simp at h
 | _::_,[],_,_,_,_,h,_=>by simp at h
 | p::P,w::vs,0,m,nd,h1,h2,hk=>by
   simp at h1 h2;subst h1;subst h2
   show bindC kindOf ((p,w)::P.zip vs) m p = _
   unfold bindC
   rw [bindC_out fun v hv=>(List.nodup_cons.mp nd).1 (List.of_mem_zip hv).1,if_neg hk]
   simp
 | p::P,w::vs,i+1,m,nd,h1,h2,hk=>by
   show bindC kindOf ((p,w)::P.zip vs) m x = _
   unfold bindC
   exact bindC_get (i:=i) (List.nodup_cons.mp nd).2 (by simpa using h1) (by simpa using h2) hk
def start (N:List Str) (vs:List V):St:=vs.map some++List.replicate (N.length - vs.length) none
def cxOf (CX:CXT) (P:Program) (w:World) (K:PySem.W.Frag) (mg:Str→Option Value) (base:Heap) (N:List Str) (qual:Str) (scope:Scope) (f:Addr) (cd:Value) (A:Around) (outer:List Env) (s:Shared) (H:Hp) (E:XK):Cx where
 prog:=P
 w:=w
 K:=K
 mg:=mg
 base:=base
 A:=A.deeper (envOfC qual scope s.heap.objs.size f cd)
 N:=N
 s₀:=s
 H₀:=H
 env:=envOfC qual scope s.heap.objs.size f cd
 outer:=outer
 stack:=envOfC qual scope s.heap.objs.size f cd::outer
 ex:=[]
 calm:=true
 fn:=fun _=>true
 pn:=[]
 xe:=fun e s'=>wpAny (model P w) (A.deeper (envOfC qual scope s.heap.objs.size f cd)) (leaving (envOfC qual scope s.heap.objs.size f cd) e) (fun _ s''=>CX outer H s E e s'') (fun e' s''=>CX outer H s E e' s'') s'
theorem cell_has {sc:Scope} {n:Nat} {x:Str} (h:sc.names.lookup x = some .cell):∃ c,(cellsFrom n sc.names []).lookup x = some c:=by
 have q:=PySem.W.cellsFrom_some sc.names n [] (.inl h)
 exact Option.isSome_iff_exists.mp q
theorem inv_start {CX:CXT} {P:Program} {w:World} {K:PySem.W.Frag} {mg:Str→Option Value} {base:Heap} {N ps:List Str} {qual:Str} {scope:Scope} {f:Addr} {cd:Value} {A:Around} {outer:List Env} {s s1:Shared} {H:Hp} {E:XK} {us:List Value} {vs:List V}
 (S:FnScope N ps scope) (hd:A.handled = none) (e0:Env0 P w K mg base A outer s H) (hl:vs.length = ps.length) (r:Vals vs us)
 (x:InCallC s s.heap.objs.size (bindL (envOfC qual scope s.heap.objs.size f cd).kindOf (ps.zip us) fun _=>none) (cellsFrom (s.heap.objs.size+1) scope.names []) (bindC (envOfC qual scope s.heap.objs.size f cd).kindOf (ps.zip us) fun _=>none) s1) :
 Inv (cxOf CX P w K mg base N qual scope f cd A outer s H E) [] (start N vs) H s1:=by
 have hpl:ps.length≤N.length:=by have:=congrArg List.length S.pre;rw [List.length_take] at this;omega
 obtain ⟨h1,tk,rfl,hk⟩:=x.done
 have noA:∀ b:Addr,b∉(cxOf CX P w K mg base N qual scope f cd A outer s H E).ex:=fun b z=>absurd (show b∈([]:List Addr) from z) (by simp)
 refine ⟨⟨e0.mod,S.kind,rfl,rfl,Nat.le_refl _,fun y z c h1 h2=>?_,fun y hy=>?_,fun y c _ h=>?_,fun _=>hd,Around.frames_deeper e0.frames,.inr ⟨rfl,rfl⟩,fun b z=>absurd z (noA b),e0.bs,e0.bsz,fun b _ _=>noA b,fun b z=>absurd z (noA b),e0.funs,e0.frf⟩,
  rfl,e0.bare,Un.kept hk,⟨_,x.toInCall.ns,fun i y v h1 h2 h3=>?_⟩,fun y c h=>⟨_,x.cell y c h⟩,e0.hok.fresh (Nat.le_refl _),fun y c h=>?_,fun p hp=>absurd (show p∈([]:List (Addr × Obj)) from hp) (by simp),e0.hok.kept hk,?_⟩
 · exact name_of_addr x.apart (PySem.mem_of_lookup h1) (PySem.mem_of_lookup h2)
 · have hy:scope.names.lookup y = some .cell∨scope.names.lookup y = some .free:=hy
   rcases hy with hy | hy
   · exact cell_has hy
   · exact absurd rfl (S.nofree _ (PySem.mem_of_lookup hy))
 · exact Nat.le_of_lt (x.above y c (PySem.mem_of_lookup h))
 · have hi:i < vs.length:=by
    unfold start at h2
    by_cases hi:i < vs.length
    · exact hi
    · rw [List.getElem?_append_right (by simpa using hi)] at h2
      rw [List.getElem?_replicate] at h2
      split at h2<;>cases h2
   have ha:vs[i]? = some v:=by
    unfold start at h2
    rw [List.getElem?_append_left (by simpa using hi),List.getElem?_map] at h2
    cases e:vs[i]? with
    | none=>rw [e] at h2;cases h2
    | some a=>rw [e] at h2;cases h2;rfl
   obtain ⟨u,hu,rv⟩:=r.get ha
   have hp:ps[i]? = some y:=by
    rw [← S.pre,List.getElem?_take_of_lt (by omega)];exact h1
   have ndP:ps.Nodup:=by rw [← S.pre];exact S.nd.sublist (List.take_sublist _ _)
   refine ⟨u,rv,?_⟩
   rcases S.par y (List.mem_of_getElem? hp) with k | k
   · exact .inl ⟨k,bindL_get ndP hp hu k⟩
   · obtain ⟨c,e⟩:=cell_has (n:=s.heap.objs.size+1) k
     refine .inr ⟨.inl k,c,e,?_⟩
     have q:=x.cell y c e
     rw [bindC_get ndP hp hu (by show scope.names.lookup y≠_;rw [k];decide)] at q
     exact q
 · exact e0.hok.fresh (Nat.le_of_lt (x.above y c (PySem.mem_of_lookup h)))
 · unfold start
   show _ = N.length
   rw [List.length_append,List.length_map,List.length_replicate]
   omega
theorem fn_of {CX:CXT} {P:Program} {w:World} {K:PySem.W.Frag} {mg:Str→Option Value} {base:Heap} {k:Nat} {f:Addr} {name qual:Str} {params:Arguments} {body:List Stmt} {scope:Scope} {dV kV doc pm cdv ct oc:Value} {an od:Option Addr}
 {osl:Array (Option Value)} {N ps:List Str} {sp:Sp} (lk:K.lookup f = some ⟨oc,od,.func (PySem.W.fnOf name qual params body scope dV kV doc pm an cdv ct),osl⟩) (hcd:PySem.W.codeIn K cdv qual = true) (S:FnScope N ps scope)
 (len:∀ vs H Q E,sp vs H Q E→vs.length = ps.length)
 (hbody:∀ (A:Around) (outer:List Env) (s:Shared) (H:Hp) (vs:List V) (Q:VK) (E:XK),Room k (A.deeper (envOfC qual scope s.heap.objs.size f cdv))→sp vs H Q E →
   ∃ t,PSs (cxOf CX P w K mg base N qual scope f cdv A outer s H E) body t∧t { nx:=fun _ H'=>Q .non H',rt:=Q } (start N vs) H) :
 FnOk P w K mg base CX (k+1) f (PySem.W.fnOf name qual params body scope dV kV doc pm an cdv ct) ps sp:=by
 refine ⟨len,fun A outer s H args us vs Q E hr e0 hb r hsp=>?_⟩
 have hl:=len _ _ _ _ hsp
 have KX:K.In s.heap:=e0.mod.kin.keeps fun b o e=>(e0.bs b o e).1
 have lim:s.heap.NoLimit:=e0.mod.nolimit.keeps fun b o e=>(e0.bs b o e).1
 have hkind:∀ y∈ps.zip us,scope.names.lookup y.1 = some .local∨(scope.names.lookup y.1 = some .cell∧((cellsFrom (s.heap.objs.size+1) scope.names []).lookup y.1).isSome = true):=fun ⟨n,v⟩ hy=>by
  rcases S.par n (List.of_mem_zip hy).1 with q | q
  · exact .inl q
  · exact .inr ⟨q,PySem.W.cellsFrom_some _ _ _ (.inl q)⟩
 refine codeAny_call_function hr.depth (KX _ _ lk) rfl S.co S.gen rfl (PySem.W.codeRec_of KX hcd) (hb _ _ _ _ ?_)
 refine wpAny_newFunctionEnv_cells S.kind hkind fun env he s1 x=>?_
 subst he
 refine ⟨lim.keeps x.toInCall.keep,codeAny_func ?_⟩
 obtain ⟨t,ht,hq⟩:=hbody A outer s H vs Q E (hr.deeper _) hsp
 have I:Inv (cxOf CX P w K mg base N qual scope f cdv A outer s H E) [] (start N vs) H s1:=inv_start S hr.hd e0 hl r x
 refine wpAny_mono (ht [] s1 (start N vs) H _ I hq) (fun fl s' hs=>?_) fun e s' hs=>hs
 have fin:∀ {σ':St} {H':Hp} {v:V} {u:Value},Inv (cxOf CX P w K mg base N qual scope f cdv A outer s H E) [] σ' H' s'→RelV v u→Q v H'→CE outer P w H s Q u s' :=
  fun {σ' H' v u} J rv q=>⟨v,H',J.os,J.bare,J.base,J.hok,rv,q⟩
 cases fl with
 | ret u =>
   obtain ⟨v,σ',H',J,rv,q⟩:=hs
   exact fin J rv q
 | next =>
   obtain ⟨σ',H',J,q⟩:=hs
   exact fin (v:=V.non) (u:=Value.none) J rfl q
 | brk =>
   obtain ⟨_,_,_,q⟩:=hs
   exact False.elim q
 | cont =>
   obtain ⟨_,_,_,q⟩:=hs
   exact False.elim q
end L2
namespace L2
open PySem PySem.Spec PyProof.Rows
section
variable {X:Cx} {x:Str} {p pos:Pos} {e:Expr} {es:List Expr} {t:TA} {id T:String} {r:List V→Hp→VK→Prop}
def tCB (r:List V→Hp→VK→Prop) (t:TA):TE:=fun σ H Q=>t σ H fun vs H1=>r vs H1 Q
theorem pe_callB (hc:CallR X (.builtin id) r) (hg:Gl X x) (hm:X.mg x = none) (hv:bootBuiltins x = some (.builtin id)) (ha:PA X (e::es) t) (hn:x≠"__name__":=by decide) (hdb:(x == ("__debug__":Str)) = false:=by decide)
 (he:starEach (e::es) X.env = (false,eval e X.env)::starEach es X.env:=by rfl) (hpl:(backTo pos (starEach es X.env)).any (·.1) = false:=by rfl):PE X (.Call (.Name x p) (e::es) [] pos) (tCB r t):=by
 intro pins s σ H Q I h
 refine wpAny_Call_Name_kw (ld_blt I hg hm hv ?_ hn hdb)
 exact PyProof.Rows.callWith_builtin1 (thn (ha pos pins s σ H _ I h) fun us s1 ⟨vs,H1,I1,r1,q1⟩=>hc pins s1 σ H1 vs us Q I1 r1 q1) he hpl
theorem pe_callTy (hc:CallR X (.type T) r) (hg:Gl X x) (hm:X.mg x = none) (hv:bootBuiltins x = some (.type T)) (ha:PA X (e::es) t) (hn:x≠"__name__":=by decide) (hdb:(x == ("__debug__":Str)) = false:=by decide)
 (he:starEach (e::es) X.env = (false,eval e X.env)::starEach es X.env:=by rfl) (hpl:(backTo pos (starEach es X.env)).any (·.1) = false:=by rfl):PE X (.Call (.Name x p) (e::es) [] pos) (tCB r t):=by
 intro pins s σ H Q I h
 refine wpAny_Call_Name_kw (ld_blt I hg hm hv ?_ hn hdb)
 exact PyProof.Rows.callWith_type1 (thn (ha pos pins s σ H _ I h) fun us s1 ⟨vs,H1,I1,r1,q1⟩=>hc pins s1 σ H1 vs us Q I1 r1 q1) he hpl
end
end L2
namespace HT
open PySem PyProof.Rows
section
open PySem.SeqAt
open PySem.AutoSeq1 (wpAny_loadPart')
open PySem.MeetsSeq PySem.MeetsSeq2 PySem.MeetsSeq3
end
section
variable {prog:Program} {w:World} {A:Around} {E:Value→Shared→Prop} {s:Shared}
theorem cat_tup {t b:Addr} {vs ws:List Value} {Q:Value→Shared→Prop} (ht:IsTup s.heap t vs.toArray) (hb:IsTup s.heap b ws.toArray) (hv:vs≠[])
 (h1:ws = []→Q (.ref t) s) (h2:ws≠[]→Q (.ref s.heap.objs.size) { s with heap:=s.heap.push { cls:=.type "tuple",data:=.seq (vs++ws).toArray } })
 (hsz:vs.length+ws.length≤sizeLine):wpAny (model prog w) A (binaryOp .Add (.ref t) (.ref b)) Q E s:=by
 obtain ⟨⟨cls,dd,data,sl⟩,ho,hc,n,hd⟩:=id ht
 obtain ⟨⟨cls2,dd2,data2,sl2⟩,ho2,hc2,n2,hd2⟩:=id hb
 simp only at hc hd hc2 hd2
 subst hc hd hc2 hd2
 have e:vs.toArray++ws.toArray = (vs++ws).toArray:=by simp
 by_cases hw:ws = []
 · exact concat_meets ⟨_,ho,rfl⟩ ⟨_,ho2,rfl⟩ noFill_tuple_add seq_tuple_add PySem.F.slot_tuple_add PySem.F.entry_tuple_add (PySem.F.args_tuple_add_2 _ _)
    (tuple_addW1 t b vs.toArray ws.toArray n n2 dd dd2 sl sl2 (by simpa using hv) (by simp [hw])) ⟨ho,ho2,h1 hw⟩
 · refine concat_meets ⟨_,ho,rfl⟩ ⟨_,ho2,rfl⟩ noFill_tuple_add seq_tuple_add PySem.F.slot_tuple_add PySem.F.entry_tuple_add (PySem.F.args_tuple_add_2 _ _)
    (tuple_addW2 t b vs.toArray ws.toArray n n2 dd dd2 sl sl2 (by simpa using hv) (by simpa using hw) (by rw [List.size_toArray,List.size_toArray];exact hsz)) ⟨ho,ho2,?_⟩
   rw [e]
   exact h2 hw
def sIx (n d:Nat):Option Int→Nat
 | none=>d
 | some v=>if v < 0 then (v+(n:Int)).toNat else min v.toNat n
theorem sIx_nat (n d k:Nat):sIx n d (some (k:Int)) = min k n:=by
 show (if (k:Int) < 0 then ((k:Int)+(n:Int)).toNat else min (k:Int).toNat n) = min k n
 rw [if_neg (by omega),Int.toNat_natCast]
theorem sIx_le (n d:Nat) (hd:d≤n) (o:Option Int):sIx n d o≤n:=by
 cases o with
 | none=>exact hd
 | some v =>
   show (if v < 0 then (v+(n:Int)).toNat else min v.toNat n)≤n
   by_cases hv:v < 0
   · rw [if_pos hv];omega
   · rw [if_neg hv];exact Nat.min_le_right _ _
theorem clip_eq (v:Int) (n d:Nat):(if v < 0 then max (v+(n:Int)) 0 else min v (n:Int)) = ((sIx n d (some v):Nat):Int):=by
 show (if v < 0 then max (v+(n:Int)) 0 else min v (n:Int)) = (((if v < 0 then (v+(n:Int)).toNat else min v.toNat n):Nat):Int)
 by_cases hv:v < 0
 · simp only [if_pos hv];omega
 · simp only [if_neg hv];omega
theorem adjust_gen (lo hi:Option Int) (n:Nat):Builtin.Slice.sliceAdjust lo hi 1 (n:Int) = (((sIx n 0 lo:Nat):Int),((sIx n n hi:Nat):Int)):=by
 have h1:¬ ((1:Int) < 0):=by omega
 unfold Builtin.Slice.sliceAdjust
 simp only [h1,if_false]
 refine Prod.ext ?_ ?_
 · cases lo with
   | none=>rfl
   | some v=>exact clip_eq v n 0
 · cases hi with
   | none=>rfl
   | some v=>exact clip_eq v n n
theorem places_gen (i j:Nat):Builtin.Slice.slicePlaces (i:Int) (j:Int) 1 = j - i:=by
 unfold Builtin.Slice.slicePlaces
 have h1:(1:Int) > 0:=by omega
 simp only [h1,if_true,Int.ediv_one]
 split<;>omega
theorem slicePart_ {v:Value} {o:Option Int} {Q:Option Int→Shared→Prop} (p:IsPart v o) (h:Q o s):wpAny (model prog w) A (Builtin.Slice.slicePartIndex v) Q E s:=by
 cases p with
 | none=>exact slicePart_none h
 | int i t=>exact slicePart_int h
theorem sliceApplied_gen {sl:Addr} {vl vu:Value} {lo hi:Option Int} {n:Nat} {Q:Int × Int × Nat→Shared→Prop} (hs:s.heap.IsSliceOf sl vl vu .none) (pl:IsPart vl lo) (pu:IsPart vu hi)
 (h:Q (((sIx n 0 lo:Nat):Int),1,sIx n n hi - sIx n 0 lo) s):wpAny (model prog w) A (Builtin.Slice.sliceApplied (.ref sl) (pure (n:Int))) Q E s:=by
 obtain ⟨os,hos,hcs,hds⟩:=id hs
 unfold Builtin.Slice.sliceApplied Builtin.Slice.sliceFields
 refine wpAny_bind (wpAny_bind (wpAny_field hos hds (x:=vl) rfl (wpAny_bind (wpAny_field hos hds (x:=vu) rfl (wpAny_bind (wpAny_field hos hds (x:=.none) rfl (wpAny_pure ?_)))))))
 refine wpAny_bind (slicePart_none ?_)
 show wpAny _ _ (if ((1:Int) == 0) = true then _ else _) _ _ s
 rw [if_neg (by decide)]
 refine wpAny_bind (slicePart_ pl (wpAny_bind (slicePart_ pu (wpAny_bind (wpAny_pure ?_)))))
 show wpAny _ _ (match Builtin.Slice.sliceAdjust lo hi 1 (n:Int) with | (lo,hi)=>pure (lo,(1:Int),Builtin.Slice.slicePlaces lo hi 1)) _ _ s
 rw [adjust_gen lo hi n]
 show wpAny _ _ (pure (((sIx n 0 lo:Nat):Int),(1:Int),Builtin.Slice.slicePlaces ((sIx n 0 lo:Nat):Int) ((sIx n n hi:Nat):Int) 1)) _ _ s
 rw [places_gen]
 exact wpAny_pure h
theorem pick_gen (xs:Array Value) (i k:Nat):((List.range k).filterMap fun (m:Nat)=>xs[((i:Int)+(m:Int) * 1).toNat]?).toArray = ((xs.toList.drop i).take k).toArray:=by
 have e:(fun (m:Nat)=>xs[((i:Int)+(m:Int) * 1).toNat]?) = fun m=>xs[i+m]? := by
  funext m
  have:((i:Int)+(m:Int) * 1).toNat = i+m:=by omega
  rw [this]
 rw [e]
 have:=pick_run xs i k
 rw [List.filterMap_map] at this
 have e2:((fun x=>xs[x]?) ∘ fun x=>i+x) = fun m=>xs[i+m]? := rfl
 rw [e2] at this
 rw [this]
theorem getItem_tuple_cut {t sl:Addr} {items:Array Value} {vl vu:Value} {lo hi:Option Int} {Q:Value→Shared→Prop} (ht:IsTup s.heap t items) (hs:s.heap.IsSliceOf sl vl vu .none) (pl:IsPart vl lo) (pu:IsPart vu hi)
 (hw:¬ (sIx items.size 0 lo = 0∧sIx items.size items.size hi = items.size))
 (h:Q (.ref s.heap.objs.size) { s with heap:=s.heap.push { cls:=.type "tuple",data:=.seq ((items.toList.drop (sIx items.size 0 lo)).take (sIx items.size items.size hi - sIx items.size 0 lo)).toArray } })
 (hsz:items.size≤sizeLine):wpAny (model prog w) A (getItem (.ref t) (.ref sl)) Q E s:=by
 have htake:sizeOk (.seq ((items.toList.drop (sIx items.size 0 lo)).take (sIx items.size items.size hi - sIx items.size 0 lo)).toArray):=by
  show ((items.toList.drop (sIx items.size 0 lo)).take (sIx items.size items.size hi - sIx items.size 0 lo)).toArray.size≤sizeLine
  rw [List.size_toArray,List.length_take,List.length_drop,Array.length_toList]
  omega
 have hj:sIx items.size items.size hi≤items.size:=sIx_le _ _ (Nat.le_refl _) hi
 obtain ⟨os,hos,hcs,hds⟩:=id hs
 have hTs:s.TypeIs (.ref sl) "slice":=⟨os,hos,hcs⟩
 unfold getItem
 try with_reducible refine wpAny_holding ?_
 first | refine wpAny_bind (wpAny_pure ?_) | skip
 refine wpAny_bind (wpAny_sequenceKey ht.typeIs (by decide) ?_)
 refine wpAny_bind (wpAny_callSpecial?_slot (name:=Str.ofString "__getitem__") ht.typeIs PyProof.Rows.slot_tuple_getitem
  (wpAny_call_entry PyProof.Rows.slot_tuple_getitem ht.typeIs entry_tuple_getitem ?_ (args_tuple_getitem _ _)))
 show wpAny _ _ (Builtin.Tuple.tupleItemsOf (.ref t) >>= _) _ _ s
 refine wpAny_bind (tupleItemsOf_ ht ?_)
 refine wpAny_bind (wpAny_typeOf hTs ?_)
 rw [if_pos (by decide)]
 refine wpAny_bind (sliceApplied_gen hs pl pu ?_)
 have hno:¬ ((((sIx items.size 0 lo:Nat):Int) == 0 && (1:Int) == 1 && (sIx items.size items.size hi - sIx items.size 0 lo) == items.size) = true):=by
  intro q
  rw [Bool.and_eq_true,Bool.and_eq_true] at q
  have q1:((sIx items.size 0 lo:Nat):Int) = 0:=eq_of_beq q.1.1
  have q2:sIx items.size items.size hi - sIx items.size 0 lo = items.size:=eq_of_beq q.2
  exact hw ⟨by omega,by omega⟩
 show wpAny _ _ (if (((sIx items.size 0 lo:Nat):Int) == 0 && (1:Int) == 1 && (sIx items.size items.size hi - sIx items.size 0 lo) == items.size) = true then _ else _) _ _ s
 rw [if_neg hno,pick_gen]
 first
  | exact wpAny_bind (m:=Builtin.Tuple.tupleExact _) (wpAny_newObj_type (wpAny_pure ⟨_,rfl,wpAny_pure h⟩) htake)
  | exact wpAny_bind (m:=Builtin.Tuple.tupleExact _) (wpAny_newObj_type (wpAny_bind (wpAny_pure (wpAny_pure ⟨_,rfl,wpAny_pure h⟩))) htake)
  | exact wpAny_bind (wpAny_bind (m:=Builtin.Tuple.tupleExact _) (wpAny_newObj_type (wpAny_pure (wpAny_pure ⟨_,rfl,wpAny_pure h⟩)) htake))
  | exact wpAny_bind (wpAny_bind (m:=Builtin.Tuple.tupleExact _) (wpAny_newObj_type (wpAny_pure ⟨_,rfl,wpAny_pure h⟩) htake))
end
end HT
namespace L2
open PySem PySem.Spec PyProof.Rows
abbrev TO:=St→Hp→(Option Int→Hp→Prop)→Prop
def PO (X:Cx) (e:Option Expr) (t:TO):Prop :=
 ∀ (pins:List (Addr × Obj)) (s:Shared) (σ:St) (H:Hp) (Q:Option Int→Hp→Prop),Inv X pins σ H s→t σ H Q →
  wpAny (model X.prog X.w) X.A (evalPart e X.env) (fun u s'=>∃ o H',Inv X pins σ H' s'∧IsPart u o∧Q o H') X.xe s
def tNoPart:TO:=fun _ H Q=>Q none H
def tPart (t:TE):TO:=fun σ H Q=>t σ H fun x H1=>∃ i,x = .int i∧Q (some i) H1
section
variable {X:Cx} {e:Expr} {te:TE} {lo hi:Option Expr} {tl th:TO} {pos p2:Pos}
theorem po_none:PO X none tNoPart:=by
 intro pins s σ H Q I h
 rw [evalPart_none]
 exact wpAny_pure ⟨none,H,I,.none,h⟩
theorem po_some (h:PE X e te):PO X (some e) (tPart te):=by
 intro pins s σ H Q I hw
 rw [evalPart_some]
 refine thn (h pins s σ H _ I hw) fun u s1 ⟨x,H1,I1,r1,q1⟩=>?_
 obtain ⟨i,rfl,q⟩:=q1
 obtain ⟨t,rfl⟩:=r1
 exact ⟨some i,H1,I1,.int i t,q⟩
def SlR (X:Cx) (r:V→Option Int→Option Int→Hp→VK→Prop):Prop :=
 ∀ (pins:List (Addr × Obj)) (s:Shared) (σ:St) (H:Hp) (x:V) (v vl vu:Value) (lo hi:Option Int) (sl:Addr) (Q:VK),Inv X pins σ H s→RelV x v→s.heap.IsSliceOf sl vl vu .none→IsPart vl lo→IsPart vu hi→r x lo hi H Q →
  ∃ T id,typeLookup (.type T) "__getitem__" = pure (some (.builtin id))∧s.TypeIs v T∧wpAny (model X.prog X.w) X.A (getItem v (.ref sl)) (EP X pins σ Q) X.xe s
theorem SlR.or {r r':V→Option Int→Option Int→Hp→VK→Prop} (h:SlR X r) (h':SlR X r'):SlR X (fun x lo hi H Q=>r x lo hi H Q∨r' x lo hi H Q):=by
 intro pins s σ H x v vl vu lo hi sl Q I rx hs pl pu q
 rcases q with q | q
 · exact h pins s σ H x v vl vu lo hi sl Q I rx hs pl pu q
 · exact h' pins s σ H x v vl vu lo hi sl Q I rx hs pl pu q
def tSl (r:V→Option Int→Option Int→Hp→VK→Prop) (te:TE) (tl th:TO):TE:=fun σ H Q=>te σ H fun x H1=>tl σ H1 fun l H2=>th σ H2 fun u H3=>r x l u H3 Q
theorem pe_slice {r:V→Option Int→Option Int→Hp→VK→Prop} (hr:SlR X r) (he:PE X e te) (hl:PO X lo tl) (hu:PO X hi th):PE X (.Subscript e (.Slice lo hi none p2) pos) (tSl r te tl th):=by
 intro pins s σ H Q I h
 refine Subscript_ (thn (he pins s σ H _ I h) fun v s1 ⟨x,H1,I1,r1,q1⟩=>?_)
 refine wpAny_Slice (thn (hl pins s1 σ H1 _ I1 q1) fun vl s2 ⟨l,H2,I2,pl,q2⟩=>thn (hu pins s2 σ H2 _ I2 q2) fun vu s3 ⟨u,H3,I3,pu,q3⟩=>?_)
 rw [evalPart_none]
 refine wpAny_pure ?_
 have I4:Inv X pins σ H3 { s3 with heap:=s3.heap.push { cls:=.type "slice",data:=.fields #[vl,vu,.none] } }:=I3.kept (t':=s3.toks) fun b ob q=>Heap.get?_push_of_some _ q
 obtain ⟨T,id,hT,ht,hg⟩:=hr pins { s3 with heap:=s3.heap.push { cls:=.type "slice",data:=.fields #[vl,vu,.none] } } σ H3 x v vl vu l u s3.heap.objs.size Q I4 r1 (Heap.IsSliceOf.new ..) pl pu q3
 show wpAny (model X.prog X.w) X.A (subscriptTail e (.Slice lo hi none p2) v (.ref s3.heap.objs.size)) (EP X pins σ Q) X.xe { s3 with heap:=s3.heap.push { cls:=.type "slice",data:=.fields #[vl,vu,.none] } }
 exact tail_any (ops:=[.ref s3.heap.objs.size,v]) ht hT hg (by with_unfolding_all rfl)
def cutV (xs:List V) (lo hi:Option Int):List V:=(xs.drop (HT.sIx xs.length 0 lo)).take (HT.sIx xs.length xs.length hi - HT.sIx xs.length 0 lo)
theorem cutV_length (xs:List V) (lo hi:Option Int):(cutV xs lo hi).length≤xs.length:=by
 unfold cutV
 rw [List.length_take,List.length_drop]
 omega
def rSlT (K:PySem.W.Frag):V→Option Int→Option Int→Hp→VK→Prop:=fun x lo hi H Q=>∃ a xs,x = .ref a∧SqT K H a xs ∧
 ¬ (HT.sIx xs.length 0 lo = 0∧HT.sIx xs.length xs.length hi = xs.length)∧∀ p,H p = none→Q (.ref p) (upd H p (.tup (cutV xs lo hi)))
theorem sl_tup:SlR X (rSlT X.K):=by
 intro pins s σ H x v vl vu lo hi sl Q I rx hs pl pu h
 obtain ⟨a,xs,rfl,hx,hw,q⟩:=h
 cases rx
 obtain ⟨its,r,ht,hz⟩:=I.tuple hx
 have hlen:its.toArray.size = xs.length:=by rw [List.size_toArray];exact r.length.symm
 refine ⟨"tuple",_,PyProof.Rows.slot_tuple_getitem.lookup,ht.typeIs,?_⟩
 refine HT.getItem_tuple_cut ht hs pl pu (by rw [hlen];exact hw) ?_ (by rw [hlen];exact hz)
 rw [hlen]
 refine ⟨.ref s.heap.objs.size,_,I.laid (t':=s.toks) (o:=.tup (cutV xs lo hi)) (fun b ob q=>Heap.get?_push_of_some _ q) (Nat.le_refl _) ?_,rfl,q _ (I.hok.fresh (Nat.le_refl _))⟩
 exact ⟨Nat.le_trans (cutV_length xs lo hi) hz,_,(r.drop (HT.sIx xs.length 0 lo)).take (HT.sIx xs.length xs.length hi - HT.sIx xs.length 0 lo),IsTup.new _ _⟩
def rCatT (K:PySem.W.Frag):R2:=fun x y H Q=>∃ a b xs ys,x = .ref a∧y = .ref b∧SqT K H a xs∧SqT K H b ys∧xs≠[]∧xs.length+ys.length≤sizeLine ∧
 (ys = []→Q (.ref a) H)∧(ys≠[]→∀ p,H p = none→Q (.ref p) (upd H p (.tup (xs++ys))))
theorem Vals.nil_iff {xs:List V} {us:List Value} (r:Vals xs us):us = []↔xs = []:=by
 cases r with
 | nil=>simp
 | cons _ _=>simp
theorem op_catT:OpR X (binaryOp .Add) (rCatT X.K):=by
 intro pins s σ H x y v u Q I rx ry h
 obtain ⟨a,b,xs,ys,rfl,rfl,ha,hb,hx,hz,q1,q2⟩:=h
 cases rx
 cases ry
 obtain ⟨its,r1,p1,_⟩:=I.tuple ha
 obtain ⟨its2,r2,p2,_⟩:=I.tuple hb
 refine HT.cat_tup p1 p2 (fun z=>hx (r1.nil_iff.mp z)) (fun z=>⟨.ref a,H,I,rfl,q1 (r2.nil_iff.mp z)⟩) (fun z=>?_) (by rw [← r1.length,← r2.length];exact hz)
 refine ⟨.ref s.heap.objs.size,_,I.laid (t':=s.toks) (o:=.tup (xs++ys)) (fun b ob q=>Heap.get?_push_of_some _ q) (Nat.le_refl _) ?_,rfl,q2 (fun w=>z (r2.nil_iff.mpr w)) _ (I.hok.fresh (Nat.le_refl _))⟩
 exact ⟨by rw [List.length_append];exact hz,_,r1.append r2,IsTup.new _ _⟩
end
end L2
namespace L2
open PySem PySem.Spec PyProof.Rows
def ixN (n:Nat) (i:Int):Option Nat:=if 0≤i then (if i < n then some i.toNat else none) else if -(n:Int)≤i then some (i+n).toNat else none
def atI {α:Type} (xs:List α) (i:Int):Option α:=(ixN xs.length i).bind fun j=>xs[j]?
theorem ixN_seq {n:Nat} {i:Int} {j:Nat} (h:ixN n i = some j):seqIndex? i n = some j∧j < n∧-(n:Int)≤i∧i < n:=by
 unfold ixN at h
 by_cases h0:0≤i
 · rw [if_pos h0] at h
   by_cases h1:i < n
   · rw [if_pos h1] at h
     have e:i.toNat = j:=Option.some.inj h
     exact ⟨by rw [seqIndex_of h0 h1,e],by omega,by omega,h1⟩
   · rw [if_neg h1] at h;cases h
 · rw [if_neg h0] at h
   by_cases h1:-(n:Int)≤i
   · rw [if_pos h1] at h
     have e:(i+n).toNat = j:=Option.some.inj h
     exact ⟨by rw [seqIndex_neg (by omega) h1,e],by omega,h1,by omega⟩
   · rw [if_neg h1] at h;cases h
theorem atI_get {α:Type} {xs:List α} {i:Int} {v:α} (h:atI xs i = some v):∃ j,seqIndex? i xs.length = some j∧xs[j]? = some v∧j < xs.length∧-(xs.length:Int)≤i∧i < xs.length:=by
 unfold atI at h
 cases e:ixN xs.length i with
 | none=>rw [e] at h;cases h
 | some j =>
   rw [e] at h
   obtain ⟨h1,h2,h3,h4⟩:=ixN_seq e
   exact ⟨j,h1,h,h2,h3,h4⟩
theorem atI_nat {α:Type} {xs:List α} {j:Nat} {v:α} (h:xs[j]? = some v):atI xs (j:Int) = some v:=by
 have hj:j < xs.length:=(List.getElem?_eq_some_iff.mp h).1
 have e:ixN xs.length (j:Int) = some j:=by
  unfold ixN
  rw [if_pos (by omega),if_pos (by omega)];simp
 unfold atI;rw [e];exact h
def PlainIx (b:Expr):Prop:=∀ o i,subscripted b false o i = operate [o,i] (getItem o i)
def IxR (X:Cx) (r:R2):Prop :=
 ∀ (value slice:Expr) (pins:List (Addr × Obj)) (s:Shared) (σ:St) (H:Hp) (x y:V) (v u:Value) (Q:VK),Inv X pins σ H s→RelV x v→RelV y u→r x y H Q →
  subscripted slice false v u = operate [v,u] (getItem v u)→wpAny (model X.prog X.w) X.A (subscriptTail value slice v u) (EP X pins σ Q) X.xe s
def MtR (X:Cx) (id:String) (r:V→List V→Hp→VK→Prop):Prop :=
 ∀ (pins:List (Addr × Obj)) (s:Shared) (σ:St) (H:Hp) (x:V) (xs:List V) (v:Value) (us:List Value) (Q:VK),Inv X pins σ H s→RelV x v→Vals xs us→r x xs H Q →
  wpAny (model X.prog X.w) X.A (call (.builtin id) (v::us)) (EP X pins σ Q) X.xe s
section
variable {X:Cx} {a b:Expr} {ta tb:TE} {pos:Pos}
theorem IxR.or {r r':R2} (h:IxR X r) (h':IxR X r'):IxR X (fun x y H Q=>r x y H Q∨r' x y H Q):=by
 intro value slice pins s σ H x y v u Q I rx ry q hs
 rcases q with q | q
 · exact h value slice pins s σ H x y v u Q I rx ry q hs
 · exact h' value slice pins s σ H x y v u Q I rx ry q hs
theorem pe_ix {r:R2} (hr:IxR X r) (ha:PE X a ta) (hb:PE X b tb) (hs:PlainIx b):PE X (.Subscript a b pos) (tOp r ta tb):=by
 intro pins s σ H Q I h
 exact Subscript_ (binT ha hb I h fun v u s2 x y H2 I2 rx ry q=>hr a b pins s2 σ H2 x y v u Q I2 rx ry q (hs _ _))
def rIxL (K:PySem.W.Frag):R2:=fun x y H Q=>∃ p xs i v,x = .ref p∧y = .int i∧SqL K H p xs∧atI xs i = some v∧Q v H
def rIxT (K:PySem.W.Frag):R2:=fun x y H Q=>∃ p xs i v,x = .ref p∧y = .int i∧SqT K H p xs∧atI xs i = some v∧Q v H
def rIxS:R2:=fun x y H Q=>∃ z i c,x = .str z∧y = .int i∧z.length≤sizeLine∧atI z.cps.toList i = some c∧Q (.str ⟨#[c]⟩) H
theorem ix_list:IxR X (rIxL X.K):=by
 intro value slice pins s σ H x y v u Q I rx ry h hs
 obtain ⟨p,xs,i,z,rfl,rfl,hq,he,q⟩:=h
 cases rx
 obtain ⟨t,rfl⟩:=ry
 obtain ⟨its,r,pl,hz⟩:=I.list hq
 obtain ⟨j,h1,h2,h3,h4,h5⟩:=atI_get he
 obtain ⟨w,ew,rw'⟩:=r.get h2
 have hl:=r.length
 have hn:=line63
 have fin:EP X pins σ Q w s:=⟨z,H,I,rw',q⟩
 by_cases h0:0≤i
 · have hj:i.toNat = j:=by
    rw [seqIndex_of h0 h5] at h1
    exact Option.some.inj h1
   exact item_listR pl.isList h0 (by omega) (by rw [hj];simpa using ew) fin hs
 · have hj:(i+(its.toArray.size:Int)).toNat = j:=by
    rw [seqIndex_neg (by omega) h4] at h1
    rw [List.size_toArray,← hl]
    exact Option.some.inj h1
   exact subscriptTail_builtinR (x:=w) pl.isList.typeIs slot_list_getitem.lookup
    (wpAny_getItem_list_neg (Q:=fun r s'=>r = w∧EP X pins σ Q r s') pl.isList (by omega) (by rw [List.size_toArray]<;>omega) (by omega) (by rw [hj];simpa using ew) ⟨rfl,fin⟩) hs
theorem ix_tup:IxR X (rIxT X.K):=by
 intro value slice pins s σ H x y v u Q I rx ry h hs
 obtain ⟨p,xs,i,z,rfl,rfl,hq,he,q⟩:=h
 cases rx
 obtain ⟨t,rfl⟩:=ry
 obtain ⟨its,r,pl,hz⟩:=I.tuple hq
 obtain ⟨j,h1,h2,h3,h4,h5⟩:=atI_get he
 obtain ⟨w,ew,rw'⟩:=r.get h2
 have hl:=r.length
 have hn:=line63
 have fin:EP X pins σ Q w s:=⟨z,H,I,rw',q⟩
 exact subscriptTail_builtinR (x:=w) pl.typeIs slot_tuple_getitem.lookup
  (getItem_tuple (j:=j) (Q:=fun r s'=>r = w∧EP X pins σ Q r s') pl (by omega) (by omega) (by rw [List.size_toArray,← hl];exact h1) (by simpa using ew) ⟨rfl,fin⟩) hs
theorem ix_str:IxR X rIxS:=by
 intro value slice pins s σ H x y v u Q I rx ry h hs
 obtain ⟨z,i,c,rfl,rfl,hz,he,q⟩:=h
 obtain ⟨t,rfl⟩:=rx
 obtain ⟨t',rfl⟩:=ry
 obtain ⟨j,h1,h2,h3,h4,h5⟩:=atI_get he
 have hl:z.cps.toList.length = z.length:=by simp [Str.length]
 rw [hl] at h1 h4 h5
 have hn:=line63
 exact tail_any (typeIs_str s z t) slot_str_getitem.lookup (getItem_str (c:=c) (by
  have e1:decide (i < -(2 ^ 63:Int)) = false:=decide_eq_false (by omega)
  have e2:decide (i ≥ 2 ^ 63) = false:=decide_eq_false (by omega)
  rw [e1,e2,Bool.or_false]) (by rw [h1];simpa using h2) ⟨.str ⟨#[c]⟩,H,I.tok _,⟨_,rfl⟩,q⟩) hs
def rIx (K:PySem.W.Frag):R2:=fun x y H Q=>rIxL K x y H Q∨rIxT K x y H Q∨rIxS x y H Q
theorem ix_seq:IxR X (rIx X.K):=ix_list.or (ix_tup.or ix_str)
theorem mapSeq_set (its:List Value) (n j:Nat) (u:Value):Obj.mapSeq (·.setIfInBounds j u) { cls:=.type "list",data:=.seq its.toArray n } = { cls:=.type "list",data:=.seq (its.set j u).toArray n }:=by
 simp [Obj.mapSeq]
theorem Inv.lst {pins:List (Addr × Obj)} {σ:St} {H:Hp} {s:Shared} {p:Addr} {xs:List V} (I:Inv X pins σ H s) (h:H p = some (.lst xs)) :
 ∃ (its:List Value) (n:Nat),Vals xs its∧s.heap.get? p = some { cls:=.type "list",data:=.seq its.toArray n }∧xs.length≤sizeLine:=by
 obtain ⟨z,its,n,r,e⟩:=I.hok p _ h
 exact ⟨its,n,r,e,z⟩
theorem Inv.lstUpd {pins:List (Addr × Obj)} {σ:St} {H:Hp} {s:Shared} {p:Addr} {xs ys:List V} {its its':List Value} {n n':Nat} {f:Obj→Obj} (I:Inv X pins σ H s) (h:H p = some (.lst xs))
 (ho:s.heap.get? p = some { cls:=.type "list",data:=.seq its.toArray n }) (hf:f { cls:=.type "list",data:=.seq its.toArray n } = { cls:=.type "list",data:=.seq its'.toArray n' }) (r:Vals ys its') (hz:ys.length≤sizeLine) (t:Nat) :
 Inv X pins σ (upd H p (.lst ys)) { s with heap:=s.heap.update p f,toks:=t }:=by
 have e:(s.heap.update p f).get? p = some { cls:=.type "list",data:=.seq its'.toArray n' }:=by
  rw [Heap.get?_update_self f ho (by rw [hf]<;>rfl),hf]
 refine I.write (x:=p) (e:=p) (by rw [h];trivial) (.inl rfl) (fun b u hb q=>(Heap.get?_update_other _ _ (Ne.symm hb)).trans q) ⟨_,e⟩ ?_
 exact ⟨hz,its',n',r,e⟩
def rSetL:V→V→V→Hp→(Hp→Prop)→Prop:=fun o i v H Q=>∃ p xs k j,o = .ref p∧i = .int k∧H p = some (.lst xs)∧ixN xs.length k = some j∧Q (upd H p (.lst (xs.set j v)))
theorem set_list:PSet X rSetL:=by
 intro pins s σ H o i v ov iv u Q I ro ri rv h
 obtain ⟨p,xs,k,j,rfl,rfl,hp,hj,q⟩:=h
 cases ro
 obtain ⟨t,rfl⟩:=ri
 obtain ⟨its,n,r,ho,hz⟩:=I.lst hp
 obtain ⟨h1,h2,h3,h4⟩:=ixN_seq hj
 have hl:=r.length
 have hn:=line63
 have I':Inv X pins σ (upd H p (.lst (xs.set j v))) { s with heap:=s.heap.update p (Obj.mapSeq (·.setIfInBounds j u)) } :=
  I.lstUpd hp ho (mapSeq_set its n j u) (r.set rv j) (by rw [List.length_set];exact hz) s.toks
 by_cases h0:0≤k
 · have hk:k.toNat = j:=by
    rw [seqIndex_of h0 h4] at h1
    exact Option.some.inj h1
   exact PySem.W.ki_setAt ho h0 (by omega) (by rw [List.size_toArray,← hl];exact h4) (by rw [hk];exact ⟨_,I',q⟩)
 · have hk:(k+(its.toArray.size:Int)).toNat = j:=by
    rw [seqIndex_neg (by omega) h3] at h1
    rw [List.size_toArray,← hl]
    exact Option.some.inj h1
   exact PySem.W.ki_setBack ho (by omega) (by rw [List.size_toArray,← hl];exact h3) (by omega) (by rw [hk];exact ⟨_,I',q⟩)
theorem slice_bounds (lo hi:Option Int) (n:Nat):(sliceBounds lo hi none n).1 = ((HT.sIx n 0 lo:Nat):Int)∧(sliceBounds lo hi none n).2.1 = ((HT.sIx n n hi:Nat):Int)∧(sliceBounds lo hi none n).2.2 = 1:=by
 refine ⟨?_,?_,rfl⟩
 · cases lo with
   | none=>simp [sliceBounds,HT.sIx]
   | some i =>
     simp only [sliceBounds,HT.sIx,Option.getD_none,show (1:Int) > 0 by decide,if_true]
     by_cases h:i < 0
     · simp only [h,if_true]<;>omega
     · simp only [h,if_false]<;>omega
 · cases hi with
   | none=>simp [sliceBounds,HT.sIx]
   | some i =>
     simp only [sliceBounds,HT.sIx,Option.getD_none,show (1:Int) > 0 by decide,if_true]
     by_cases h:i < 0
     · simp only [h,if_true]<;>omega
     · simp only [h,if_false]<;>omega
theorem slicePick_cut (its:List Value) (lo hi:Option Int):slicePick its.toArray lo hi none = ((its.drop (HT.sIx its.length 0 lo)).take (HT.sIx its.length its.length hi - HT.sIx its.length 0 lo)).toArray:=by
 obtain ⟨h1,h2,h3⟩:=slice_bounds lo hi its.toArray.size
 unfold slicePick
 rw [h1,h2,h3]
 simp only [sliceRange_one,pick_run,List.size_toArray]<;>rfl
def rSlL (K:PySem.W.Frag):V→Option Int→Option Int→Hp→VK→Prop:=fun x lo hi H Q=>∃ a xs,x = .ref a∧SqL K H a xs∧∀ p,H p = none→Q (.ref p) (upd H p (.lst (cutV xs lo hi)))
theorem sl_list:SlR X (rSlL X.K):=by
 intro pins s σ H x v vl vu lo hi sl Q I rx hs pl pu h
 obtain ⟨a,xs,rfl,hx,q⟩:=h
 cases rx
 obtain ⟨its,r,ht,hz⟩:=I.list hx
 have hlen:=r.length
 refine ⟨"list",_,slot_list_getitem.lookup,ht.isList.typeIs,?_⟩
 refine wpAny_getItem_list_slice ht.isList hs pl pu .none (by simp) ?_ (by rw [List.size_toArray]<;>omega)
 rw [slicePick_cut,← hlen]
 refine ⟨.ref s.heap.objs.size,_,I.laid (t':=s.toks) (o:=.lst (cutV xs lo hi)) (fun b ob q=>Heap.get?_push_of_some _ q) (Nat.le_refl _) ?_,rfl,q _ (I.hok.fresh (Nat.le_refl _))⟩
 exact ⟨Nat.le_trans (cutV_length xs lo hi) hz,_,0,(r.drop (HT.sIx xs.length 0 lo)).take (HT.sIx xs.length xs.length hi - HT.sIx xs.length 0 lo),Heap.get?_push_size _ rfl⟩
theorem call_len_seq:CallR X (.builtin "len") (fun xs H Q=>∃ p ys,xs = [.ref p]∧(SqL X.K H p ys∨SqT X.K H p ys)∧Q (.int ys.length) H):=by
 intro pins s σ H xs us Q I r h
 obtain ⟨p,ys,rfl,hq,q⟩:=h
 obtain ⟨u,rfl,rx⟩:=vals1 r
 cases rx
 have hn:=line63
 rcases hq with hq | hq
 · obtain ⟨its,r',pl,hz⟩:=I.list hq
   have hlen:=r'.length
   exact Calls.call_len_list pl.isList (by simp only [List.size_toArray]<;>omega) ⟨.int ys.length,H,I.tok _,⟨s.toks+1,by rw [List.size_toArray,hlen]⟩,q⟩
 · obtain ⟨its,r',pl,hz⟩:=I.tuple hq
   have hlen:=r'.length
   exact len_tuple pl (by simp only [List.size_toArray]<;>omega) ⟨.int ys.length,H,I.tok _,⟨s.toks+1,by rw [List.size_toArray,hlen]⟩,q⟩
theorem call_len_str:CallR X (.builtin "len") (fun xs H Q=>∃ z,xs = [.str z]∧z.length≤sizeLine∧Q (.int z.length) H):=by
 intro pins s σ H xs us Q I r h
 obtain ⟨z,rfl,hz,q⟩:=h
 obtain ⟨u,rfl,t,rfl⟩:=vals1 r
 have hn:=line63
 exact len_str (by omega) ⟨.int z.length,H,I.tok _,⟨_,rfl⟩,q⟩
theorem CallR.or {f:Value} {r r':List V→Hp→VK→Prop} (h:CallR X f r) (h':CallR X f r'):CallR X f (fun xs H Q=>r xs H Q∨r' xs H Q):=by
 intro pins s σ H xs us Q I rs q
 rcases q with q | q
 · exact h pins s σ H xs us Q I rs q
 · exact h' pins s σ H xs us Q I rs q
theorem call_list_of:CallR X (.type "list") (fun xs H Q=>∃ p ys,xs = [.ref p]∧(SqL X.K H p ys∨SqT X.K H p ys)∧∀ l,H l = none→Q (.ref l) (upd H l (.lst ys))):=by
 intro pins s σ H xs us Q I r h
 obtain ⟨p,ys,rfl,hq,q⟩:=h
 obtain ⟨u,rfl,rx⟩:=vals1 r
 cases rx
 have fin:∀ (its:List Value),Vals ys its→ys.length≤sizeLine→∀ (h':Heap) (c':Nat),(∀ b o',s.heap.get? b = some o'→h'.get? b = some o') →
  h'.get? s.heap.objs.size = some { cls:=.type "list",dict:=none,data:=.seq its.toArray c',slots := #[] }→EP X pins σ Q (.ref s.heap.objs.size) { s with heap:=h' }:=fun its r' hz h' c' kp e =>
  ⟨.ref s.heap.objs.size,_,I.laid (t':=s.toks) kp (Nat.le_refl _) (show ObjOk X.prog X.w _ h' _ (.lst ys) from ⟨hz,its,c',r',e⟩),rfl,q _ (I.hok.fresh (Nat.le_refl _))⟩
 rcases hq with hq | hq
 · obtain ⟨its,r',pl,hz⟩:=I.list hq
   have hlen:=r'.length
   obtain ⟨o,ho,hc,n,hd⟩:=pl.isList
   exact call_list_seq p (.inl rfl) ho hc hd (fun h' c' kp e=>fin its r' hz h' c' kp e) (by simp only [List.size_toArray]<;>omega)
 · obtain ⟨its,r',pl,hz⟩:=I.tuple hq
   have hlen:=r'.length
   obtain ⟨o,ho,hc,n,hd⟩:=pl
   exact call_list_seq p (.inr rfl) ho hc hd (fun h' c' kp e=>fin its r' hz h' c' kp e) (by simp only [List.size_toArray]<;>omega)
theorem call_tuple_of:CallR X (.type "tuple") (fun xs H Q=>∃ p ys,xs = [.ref p]∧((SqL X.K H p ys∧∀ l,H l = none→Q (.ref l) (upd H l (.tup ys)))∨(SqT X.K H p ys∧Q (.ref p) H))):=by
 intro pins s σ H xs us Q I r h
 obtain ⟨p,ys,rfl,h⟩:=h
 obtain ⟨u,rfl,rx⟩:=vals1 r
 cases rx
 rcases h with ⟨hq,q⟩ | ⟨hq,q⟩
 · obtain ⟨its,r',pl,hz⟩:=I.list hq
   have hlen:=r'.length
   refine call_tuple_list pl.isList (fun h' kp=>?_) (by simp only [List.size_toArray]<;>omega)
   have I1:Inv X pins σ H { s with heap:=h' }:=I.kept (t':=s.toks) kp
   have I2:Inv X pins σ (upd H h'.objs.size (.tup ys)) { s with heap:=h'.push { cls:=.type "tuple",data:=.seq its.toArray } } :=
    I1.laid (t':=s.toks) (fun b o e=>Heap.get?_push_of_some _ e) (Nat.le_refl _) (show ObjOk X.prog X.w _ _ _ (.tup ys) from ⟨hz,its,r',IsTup.new _ _⟩)
   exact ⟨.ref h'.objs.size,_,I2,rfl,q _ (I1.hok.fresh (Nat.le_refl _))⟩
 · obtain ⟨its,r',pl,hz⟩:=I.tuple hq
   exact call_tuple_same pl ⟨.ref p,H,I,rfl,q⟩
def tyV (K:PySem.W.Frag) (T:String) (x:V) (H:Hp):Prop:=match x with
 | .str _=>T = "str"
 | .int _=>T = "int"
 | .ref p=>(T = "list"∧∃ xs,SqL K H p xs)∨(T = "tuple"∧∃ o,K.lookup p = some o∧o.cls = .type "tuple"∧o.dict = none) ∨
    (T = "dict"∧((∃ kvs,H p = some (.dK kvs))∨∃ kvs,H p = some (.dT kvs)))∨(T = "set"∧∃ S n,H p = some (.set S n))
 | _=>False
theorem tyV_is {pins:List (Addr × Obj)} {σ:St} {H:Hp} {s:Shared} {T:String} {x:V} {v:Value} (I:Inv X pins σ H s) (r:RelV x v) (ty:tyV X.K T x H) :
 s.TypeIs v T∧∀ a,v = .ref a→∃ ob,s.heap.get? a = some ob∧ob.dict = none:=by
 cases x with
 | str z =>
   obtain ⟨t,rfl⟩:=r
   cases (show T = "str" from ty)
   exact ⟨typeIs_str s z t,fun _ e=>nomatch e⟩
 | int i =>
   obtain ⟨t,rfl⟩:=r
   cases (show T = "int" from ty)
   exact ⟨typeIs_int s i t,fun _ e=>nomatch e⟩
 | ref p =>
   cases r
   rcases ty with ⟨rfl,xs,hq⟩ | ⟨rfl,o,hk,hc,hd⟩ | ⟨rfl,hk⟩ | ⟨rfl,S,n,hk⟩
   · obtain ⟨its,_,pl,_⟩:=I.list hq
     refine ⟨pl.isList.typeIs,fun a e=>?_⟩
     cases e
     obtain ⟨o,n,e,c,hd,_⟩:=pl
     exact ⟨o,e,hd⟩
   · refine ⟨⟨o,I.kIn p o hk,hc⟩,fun a e=>?_⟩
     cases e
     exact ⟨o,I.kIn _ o hk,hd⟩
   · have z:∃ o,s.heap.get? p = some o∧o.ExactDict:=by
      rcases hk with ⟨kvs,hk⟩ | ⟨kvs,hk⟩
      · obtain ⟨_,_,_,_,o,_,_,e,ex,_⟩:=I.hok p _ hk
        exact ⟨o,e,ex⟩
      · obtain ⟨_,_,_,_,o,_,_,e,ex,_⟩:=I.hok p _ hk
        exact ⟨o,e,ex⟩
     obtain ⟨o,e,ex⟩:=z
     refine ⟨⟨o,e,ex.1⟩,fun a e2=>?_⟩
     cases e2
     exact ⟨o,e,ex.2.1⟩
   · obtain ⟨o,_,_,_,e,ex,_⟩:=I.hok p _ hk
     refine ⟨⟨o,e,ex.1⟩,fun a e2=>?_⟩
     cases e2
     exact ⟨o,e,ex.2.1⟩
 | _=>exact False.elim ty
def tBM0 (K:PySem.W.Frag) (T:String) (r:V→List V→Hp→VK→Prop) (to:TE):TE:=fun σ H Q=>to σ H fun x H1=>tyV K T x H1∧r x [] H1 Q
def tBM (K:PySem.W.Frag) (T:String) (r:V→List V→Hp→VK→Prop) (to:TE) (t:TA):TE:=fun σ H Q=>to σ H fun x H1=>tyV K T x H1∧t σ H1 fun xs H2=>r x xs H2 Q
variable {o e:Expr} {es:List Expr} {to:TE} {t:TA} {name:Str} {apos cpos:Pos} {T id:String} {r:V→List V→Hp→VK→Prop}
theorem pe_bm0 (pa:PlainAttrs T) (slot:Slot T name id) (hty:typeOf (.builtin id) = pure (.type "method_descriptor")) (hm:MtR X id r) (ho:PE X o to)
 (hbase:attributeBase o name X.env (eval o X.env) = eval o X.env:=by rfl) (hline:(apos.endLine == cpos.line) = true:=by rfl):PE X (.Call (.Attribute o name apos) [] [] cpos) (tBM0 X.K T r to):=by
 intro pins s σ H Q I h
 refine wpAny_Call_method0_late hbase hline (thn (ho pins s σ H _ I h) fun v s1 ⟨x,H1,I1,r1,ty,q1⟩=>?_)
 obtain ⟨h1,h2⟩:=tyV_is I1 r1 ty
 exact ⟨T,id,pa,slot,hty,h1,h2,Calls.callWith_builtin rfl (PySem.evalArgs_none (hm pins s1 σ H1 x [] v [] Q I1 r1 .nil q1))⟩
theorem pe_bm (pa:PlainAttrs T) (slot:Slot T name id) (hty:typeOf (.builtin id) = pure (.type "method_descriptor")) (hm:MtR X id r) (ho:PE X o to) (ha:PA X (e::es) t)
 (hbase:attributeBase o name X.env (eval o X.env) = eval o X.env:=by rfl)
 (hfew:((backTo cpos (starEach (e::es) X.env)).all (fun x=>!x.1) && (backToKw cpos (keywordEach [] X.env)).all (fun x=>x.1.isSome)
   && decide ((e::es).length+([]:List Keyword).length+(if ([]:List Keyword).isEmpty then 0 else 1) < 30)) = true:=by rfl)
 (hline:(apos.endLine == cpos.line) = true:=by rfl) (hs:starEach (e::es) X.env = (false,eval e X.env)::starEach es X.env:=by rfl) (hplain:(backTo cpos (starEach es X.env)).any (·.1) = false:=by rfl) :
 PE X (.Call (.Attribute o name apos) (e::es) [] cpos) (tBM X.K T r to t):=by
 intro pins s σ H Q I h
 refine wpAny_Call_method_late hbase hfew hline rfl (thn (ho pins s σ H _ I h) fun v s1 ⟨x,H1,I1,r1,ty,q1⟩=>?_)
 obtain ⟨h1,h2⟩:=tyV_is I1 r1 ty
 refine ⟨T,id,pa,slot,hty,h1,h2,?_⟩
 have hA:=ha cpos pins s1 σ H1 _ I1 q1
 rw [hs] at hA ⊢
 refine Calls.callWith_builtin (by show (false || (backTo cpos (starEach es X.env)).any (·.1)) = false;rw [hplain]<;>rfl) (Calls.evalArgs_plain ?_)
 exact thn hA fun us s2 ⟨vs,H2,I2,r2,q2⟩=>hm pins s2 σ H2 x vs v us Q I2 r1 r2 q2
/- xs.append(e),list.index on a module's tuple .. are MtR facts of 06m -/
end
end L2
namespace L2
open PySem PySem.Spec PyProof.Rows
def MtM (X:Cx) (id:String) (r:V→List V→Hp→VK→Prop):Prop :=
 ∀ (pins:List (Addr × Obj)) (s:Shared) (σ:St) (H:Hp) (x:V) (xs:List V) (v:Value) (us:List Value) (Q:VK),Inv X pins σ H s→RelV x v→Vals xs us→r x xs H Q →
  wpAny (model X.prog X.w) X.A (call (.builtin id) (v::us)) (EP X pins σ Q) X.xe s
theorem Vals.one:∀ {x:V} {us:List Value},Vals [x] us→∃ u,us = [u]∧RelV x u
 | _,_,.cons r .nil=>⟨_,rfl,r⟩
theorem Vals.zero:∀ {us:List Value},Vals [] us→us = []
 | _,.nil=>rfl
theorem Vals.dropLast {xs:List V} {us:List Value} (h:Vals xs us):Vals xs.dropLast us.dropLast:=by
 induction h with
 | nil=>exact .nil
 | cons r t ih =>
   cases t with
   | nil=>exact .nil
   | cons q t'=>exact .cons r ih
theorem erase_last {α:Type} (l:List α):l.eraseIdx (l.length - 1) = l.dropLast:=by
 induction l with
 | nil=>rfl
 | cons a r ih =>
   cases r with
   | nil=>rfl
   | cons b r =>
     have e:(a::b::r).length - 1 = ((b::r).length - 1)+1:=by
      have h1:(a::b::r).length = r.length+2:=rfl
      have h2:(b::r).length = r.length+1:=rfl
      omega
     rw [e,List.eraseIdx_cons_succ,ih]
     all_goals rfl
section
variable {X:Cx} {pins:List (Addr × Obj)} {σ:St} {H:Hp} {s:Shared} {l b:Addr} {xs ys zs:List V}
theorem Inv.lset {its its':List Value} {n:Nat} {f:Array Value→Array Value} {t':Nat} (I:Inv X pins σ H s) (hH:H l = some (.lst xs))
 (e:s.heap.get? l = some { cls:=.type "list",data:=.seq its.toArray n }) (hf:f its.toArray = its'.toArray) (hv:Vals ys its') (hz:ys.length≤sizeLine) :
 Inv X pins σ (upd H l (.lst ys)) { s with heap:=s.heap.update l (Obj.mapSeq f),toks:=t' }:=by
 have q:=PySem.IsL.update e f
 rw [hf] at q
 refine I.write (x:=l) (e:=l) (by rw [hH];exact trivial) (.inl rfl) (fun b' u hb hu=>(Heap.get?_update_other s.heap (Obj.mapSeq f) (Ne.symm hb)).trans hu) ⟨_,q⟩ ?_
 exact ⟨hz,its',_,hv,q⟩
theorem Inv.lnew {its:List Value} {t':Nat} (I:Inv X pins σ H s) (hv:Vals ys its) (hz:ys.length≤sizeLine) :
 Inv X pins σ (upd H s.heap.objs.size (.lst ys)) { s with heap:=s.heap.push { cls:=.type "list",data:=.seq its.toArray },toks:=t' } :=
 I.laid (fun _ _ q=>Heap.get?_push_of_some _ q) (Nat.le_refl _) ⟨hz,its,0,hv,Heap.get?_push_size _ rfl⟩
theorem Inv.fresh (I:Inv X pins σ H s):H s.heap.objs.size = none:=I.hok.fresh (Nat.le_refl _)
theorem Inv.lstM (I:Inv X pins σ H s) (hH:H l = some (.lst xs)):xs.length≤sizeLine∧∃ (its:List Value) (n:Nat),Vals xs its∧xs.length = its.length∧s.heap.get? l = some { cls:=.type "list",data:=.seq its.toArray n }:=by
 obtain ⟨z,its,n,r,e⟩:=I.hok l _ hH
 exact ⟨z,its,n,r,r.length,e⟩
theorem notLongL {n:Nat} (h:n≤sizeLine):Builtin.List.listTooLong n = false:=by
 unfold Builtin.List.listTooLong
 exact decide_eq_false (by omega)
end
section
variable {X:Cx}
def rAppend:V→List V→Hp→VK→Prop:=fun x vs H Q=>∃ l xs y,x = .ref l∧vs = [y]∧H l = some (.lst xs)∧xs.length < sizeLine∧Q .non (upd H l (.lst (xs++[y])))
theorem mt_append:MtM X "list.append" rAppend:=by
 intro pins s σ H x vs v us Q I rx rv h
 obtain ⟨l,xs,y,rfl,rfl,hH,hz,q⟩:=h
 cases rx
 obtain ⟨u,rfl,ru⟩:=rv.one
 obtain ⟨z,its,n,r,hl,e⟩:=I.lstM hH
 refine call_meets F.slot_list_append ⟨_,e,rfl⟩ F.entry_list_append (F.args_list_append_2 _ _) (PySem.list_append l its.toArray n u (by rw [List.size_toArray];omega)) ⟨e,?_⟩
 refine ⟨.non,_,I.lset (its':=its++[u]) hH e (by simp) (r.append (.cons ru .nil)) ?_,rfl,q⟩
 rw [List.length_append,List.length_singleton]
 omega
def rPop:V→List V→Hp→VK→Prop:=fun x vs H Q=>∃ l xs y,x = .ref l∧vs = []∧H l = some (.lst xs)∧xs[xs.length - 1]? = some y∧Q y (upd H l (.lst xs.dropLast))
theorem mt_pop:MtM X "list.pop" rPop:=by
 intro pins s σ H x vs v us Q I rx rv h
 obtain ⟨l,xs,y,rfl,rfl,hH,hy,q⟩:=h
 cases rx
 have hus:=rv.zero
 subst hus
 obtain ⟨z,its,n,r,hl,e⟩:=I.lstM hH
 obtain ⟨u,hu,ru⟩:=r.get hy
 have hy':its.toArray[its.toArray.size - 1]? = some u:=by
  show its.toArray[its.length - 1]? = some u
  rw [← Array.getElem?_toList,← hl]
  exact hu
 refine call_meets F.slot_list_pop ⟨_,e,rfl⟩ F.entry_list_pop (F.args_list_pop_1 _) (MeetsSeq.list_pop_last l its.toArray n u hy' (by rw [List.size_toArray];omega)) ⟨e,?_⟩
 refine ⟨y,_,I.lset (its':=its.dropLast) hH e ?_ r.dropLast ?_,ru,q⟩
 · show its.toArray.eraseIdxIfInBounds (its.toArray.size - 1) = its.dropLast.toArray
   rw [List.size_toArray,List.eraseIdxIfInBounds_toArray,erase_last]
 · rw [List.length_dropLast]
   omega
end
section
variable {prog:Program} {w:World} {A:Around} {E:Value→Shared→Prop} {s:Shared}
end
section
variable {X:Cx}
end
end L2
namespace Att
open PySem PySem.W PySem.Calls PyProof.Rows
theorem ints_of_wellAll {P:Params} {h:Heap}:∀ (ns:List Int) (vs:List Value),WellAll P h vs (ns.map WData.int)→IntsAre vs ns:=by
 intro ns
 induction ns with
 | nil =>
   intro vs w
   rw [List.map_nil] at w
   cases w
   exact .nil
 | cons n ns ih =>
   intro vs w
   rw [List.map_cons] at w
   cases w with
   | cons a b =>
     cases a
     exact .cons _ _ (ih _ b)
theorem script_of {l:OpenLaw} {n:Nat} (hn:l.most = some n) {P:Params} {h:Heap} {args:List WData} {vals:List Value}
 (hpre:l.row.toRowW.claim.pre args = true) (hwl:WellAll P h vals args) :
 ∃ a vs ns,vals = [Value.ref a]∧args = [WData.list (ns.map WData.int)]∧h.get? a = some { cls:=.type "list",data:=.seq vs.toArray }∧IntsAre vs ns∧ns.length≤n:=by
 have hsh:WShape.hasAll [] args [.list .int] = true:=(pre_splitW hpre).1
 have hc:l.pre.holds [] { args:=args } = true:=(pre_splitW hpre).2
 obtain ⟨d,r,rfl,h1,h2⟩:=hasAllW_cons hsh
 obtain rfl:=hasAllW_nil h2
 obtain ⟨xs,rfl,h3⟩:=hasW_list h1
 obtain ⟨ns,rfl⟩:=items_int h3
 have hlen:ns.length≤n:=by
  unfold OpenLaw.pre at hc
  have h4:(WTm.not (.lt (.lit (.int (n:Int))) (.len (.arg 0)))).holds [] { args:=[.list (ns.map .int)] } = true:=by
   have h4:=(holds_andW hc).1
   rw [hn] at h4
   exact h4
  have h5:=condW_of h4 (w_not (w_lt w_lit (w_len_list (w_arg rfl))))
  rw [List.length_map] at h5
  refine Nat.le_of_not_lt fun q=>?_
  have q':(n:Int) < ((ns.length:Nat):Int):=by omega
  first
   | (rw [decide_eq_true q'] at h5;exact absurd h5 (by decide))
   | (simp at h5;omega)
 cases hwl with
 | cons w1 w2 =>
   cases w2
   cases w1 with
   | list ho hall=>exact ⟨_,_,ns,rfl,rfl,ho,ints_of_wellAll ns _ hall,hlen⟩
theorem post_true (l:OpenLaw) (args:List WData):l.row.toRowW.claim.post args (.bool true) args = true :=
 postW_of (r:=l.row.toRowW) (X:=(true == true))
  (show WShape.has [] (.bool true) .bool = true by first | rfl | decide | simp [WShape.has,WShape.arms,WShape.armsAll])
  (show (WTm.eq .res (.lit (.bool true))).value [] { args:=args,res:=some (.bool true),after:=args } = some (.bool (true == true)) from w_eq_bool (w_res rfl) w_lit) rfl
theorem attach_call {l:OpenLaw} {n:Nat} {q:Program} {loose:List Str} {XP:(Str→Option Value)→Heap→Prop} {YP:World→Heap→Prop} {d:DefRec}
 (hn:l.most = some n) (hdf:d.params.defaults = [])
 (call:∀ (w:World) (s₀ s₁:Shared) (mg mb:Str→Option Value) (fa:Addr) (o:Obj) (pm cd doc:Value) (a:Addr) (vs:List Value) (ns:List Int),
   Ground q loose [] XP w s₀ mg mb s₁.heap→YP w s₁.heap →
   s₁.heap.get? fa = some o→o.data = .func (docDef d.name d.params d.body d.scope pm cd doc)→s₁.heap.CodeRec cd d.name→mg d.name = some (.ref fa) →
   s₁.heap.get? a = some { cls:=.type "list",data:=.seq vs.toArray }→IntsAre vs ns→ns.length≤n→s₁.gens = #[] →
   codeAny (model l.prog w) callerA (.call (.ref fa) ⟨[.ref a],[]⟩) (fun r s'=>r = .ok (.ret (.bool true))∧OldK s₁.heap s'.heap∧s'.os = s₁.os∧AllBare s'.gens) s₁) :
 WalkO q loose XP YP l.row.toRowW d [] (fun f vs=>PySem.call f vs):=by
 intro w s₀ s₁ mg mb G Y fa o pm cd doc dV kV ho hd hcd hD hmg hg args vals as hpre hlay hrd hwl hlo
 obtain rfl:dV = .none:=Dflts.none hD hdf
 obtain rfl:kV = .none:=Dflts.noKw hD
 obtain ⟨a,vs,ns,rfl,rfl,hobj,hints,hlen⟩:=script_of hn hpre hwl
 refine enter_call (codeAny_mono (call w s₀ s₁ mg mb fa o pm cd doc a vs ns G Y ho (fd_plain hd) hcd hmg hobj hints hlen hg) fun r s' hq=>?_)
 obtain ⟨rfl,h2,h3,h4⟩:=hq
 exact ⟨.inl ⟨.bool true,.bool true,[],rfl,fun _=>rfl,.bool true,post_true l _,fun _=>⟨List.Pairwise.nil,fun _ hm=>(nomatch hm)⟩⟩,h2,h3,h4⟩
section
variable {prog:Program} {w:World} {A:Around} {E:Value→Shared→Prop} {s:Shared} {K:Frag}
end
end Att
namespace L2
open PySem PySem.Spec PyProof.Rows
theorem vals_ints:∀ {vs:List Value} {ns:List Int},IntsAre vs ns→Vals (ns.map V.int) vs
 | _,_,.nil=>.nil
 | _,_,.cons n t h=>.cons ⟨t,rfl⟩ (vals_ints h)
end L2
namespace L2
open PySem PySem.Spec PyProof.Rows
end L2
/- THE LAST THEOREM (shape;LID,My.* are yours):
 My.Adr: a structure of the addresses that your layer names (classes,functions);My.Txt K t: a structure (Prop) of the equations over K;
 My.txt_mk:{K} {implicit addresses ..} (e1:nsIn K mainGlobals "law" = some (some (.ref f))) (e2:K.lookup f = some ⟨oc,od,.func (fnOf "law" "law" params body scope dV kV doc pm an cdv ct),sl⟩) (e3:codeIn K cdv "law" = true) .. : ∃ t,My.Txt K t
set_option maxRecDepth 100000 in
set_option maxHeartbeats 0 in
theorem PySem.Challenge.cw_LID_holds : PySem.Challenge.rw_LID.Holds := by
 w_on;o_law;k_head;(case hw=>w_witness2)
 k_fill
 refine L2.walk_of (l:=PySem.Challenge.rw_LID) (n:=63) (k:=40) (x:="script") (CX:=fun w=>..) (sp:=fun _=>My.sp_law) rfl (by decide) rfl ⟨rfl,by decide,by decide⟩ (fun w h Y=>PySem.W.km_in_of Y) ?F ?S ?C
 case F =>
  intro w mg fa h KX G hmg
  have T:∃ t,My.Txt (L2.KOf KX) t:=by
   dsimp only [L2.KOf]                          -- K must stand as «<heap const> w.params» for k_is
   refine' My.txt_mk ?e1 ?e2 ?e3 ..
   (case e1=>PySem.W.k_is)                    -- in the order: a name->its address->its object->its parts
   (case e2=>PySem.W.k_is)
   ..
  obtain ⟨t,T⟩:=T
  have e0:=hmg.symm.trans (PySem.W.mg_of KX G T.law)
  cases e0                                       -- fa is the law's own address
  exact ⟨_,fun s u=>.of_eq rfl,fun base kb nb=>My.law_fn T kb nb⟩     -- if «.of_eq rfl» comes too early: refine' ⟨_,?b,fun base kb nb=>My.law_fn T kb nb⟩;exact fun s u=>.of_eq rfl
 case S=>exact fun w H a ns hl hO hS=>..
 case C=>exact ..
(the tactic k_is has no namespace: write k_is) -/
namespace L2
open PySem PySem.Spec PyProof.Rows
def defArgs (s:Stmt):Arguments:=match s with
 | .FunctionDef _ a _ _ _ _ _ _ _ _=>a
 | _=>{ posonlyargs:=[],args:=[],vararg:=none,kwonlyargs:=[],kw_defaults:=[],kwarg:=none,defaults:=[] }
def defBody (s:Stmt):List Stmt:=match s with
 | .FunctionDef _ _ b _ _ _ _ _ _ _=>b
 | _=>[]
def defScope (s:Stmt):Scope:=match s with
 | .FunctionDef _ _ _ _ _ _ sc _ _ _=>sc
 | _=>{ kind:=.function,names:=[],isGenerator:=false,isCoroutine:=false }
abbrev CX0:CXT:=fun _ _ _ _ _ _=>False
abbrev E0:XK:=fun _ _ _=>False
theorem pass0 {X:Cx}:Passes CX0 X E0:=fun _ _ _ _ _ _ _ h=>h.elim
structure Fun (K:PySem.W.Frag) (x qual:Str) (st:Stmt) (f:Addr) (fd:FuncData):Prop where
 ex:∃ (oc:Value) (od:Option Addr) (kV doc pm:Value) (an:Option Addr) (cdv ct:Value) (osl:Array (Option Value)),
  fd = PySem.W.fnOf x qual (defArgs st) (defBody st) (defScope st) .none kV doc pm an cdv ct∧K.lookup f = some ⟨oc,od,.func fd,osl⟩∧PySem.W.codeIn K cdv qual = true
 kp:PySem.W.keepIn K (.ref f) = true
section
variable {P:Program} {w:World} {K:PySem.W.Frag} {mg:Str→Option Value} {base:Heap}
theorem Fun.binds {x qual:Str} {st:Stmt} {f:Addr} {fd:FuncData} {ps:List Str} (F:Fun K x qual st f fd)
 (h:∀ (kV doc pm:Value) (an:Option Addr) (cdv ct:Value) (us:List Value),us.length = ps.length→bindArgs (PySem.W.fnOf x qual (defArgs st) (defBody st) (defScope st) .none kV doc pm an cdv ct) ⟨us,[]⟩ = pure (ps.zip us)):Binds K fd ps []:=by
 obtain ⟨oc,od,kV,doc,pm,an,cdv,ct,osl,rfl,lk,hcd⟩:=F.ex
 exact .all (h kV doc pm an cdv ct)
theorem fun_mk {x qual:Str} {st:Stmt} {f:Addr} {oc:Value} {od an:Option Addr} {osl:Array (Option Value)} {kV doc pm cdv ct:Value} (l:K.lookup f = some ⟨oc,od,.func (PySem.W.fnOf x qual (defArgs st) (defBody st) (defScope st) .none kV doc pm an cdv ct),osl⟩)
 (c:PySem.W.codeIn K cdv qual = true) (k:PySem.W.keepIn K (.ref f) = true):Fun K x qual st f (PySem.W.fnOf x qual (defArgs st) (defBody st) (defScope st) .none kV doc pm an cdv ct):=⟨⟨oc,od,kV,doc,pm,an,cdv,ct,osl,rfl,l,c⟩,k⟩
end
section
variable {X:Cx}
end
theorem iteF {A B:Prop} (h:B):if false = true then A else B:=by
 rw [if_neg Bool.false_ne_true]
 exact h
theorem iteT {A B:Prop} (h:A):if true = true then A else B:=by
 rw [if_pos rfl]
 exact h
def Same (H H':Hp):Prop:=∀ b o,H b = some o→H' b = some o
theorem Same.refl (H:Hp):Same H H:=fun _ _ h=>h
end L2
end
section
namespace L2
open PySem PySem.Spec PyProof.Rows
section
variable {κ:Type} [DecidableEq κ]
end
section
variable {P:Program} {w:World} {H:Hp} {h:Heap} {a:Addr}
end
section
variable {X:Cx} {pins:List (Addr × Obj)} {σ:St} {H:Hp} {s:Shared} {a:Addr} {y v:V} {u r:Value} {o:Option V} {A:Around} {E:Value→Shared→Prop}
end
section
variable {X:Cx} {pins:List (Addr × Obj)} {σ:St} {H:Hp} {s:Shared} {a:Addr} {kvs:List (Key × V)} {k:Key} {u:Value} {A:Around} {E:Value→Shared→Prop}
end
section
variable {X:Cx} {o i e value:Expr} {pos pos' tpos:Pos} {td ty tv:TE}
end
section
variable {X:Cx} {pos:Pos}
end
structure M1 (X:Cx) (o:Expr) (m:Str) (apos:Pos) (e:Expr) (cpos:Pos):Prop where
 base:attributeBase o m X.env (eval o X.env) = eval o X.env
 few:((backTo cpos (starEach [e] X.env)).all (fun x=>!x.1) && (backToKw cpos (keywordEach [] X.env)).all (fun x=>x.1.isSome)
  && decide (([e]:List Expr).length+([]:List Keyword).length+(if ([]:List Keyword).isEmpty then 0 else 1) < 30)) = true
 line:(apos.endLine == cpos.line) = true
 trees:backTo cpos (starEach [e] X.env) = [(false,eval e X.env)]
structure M2 (X:Cx) (o:Expr) (m:Str) (apos:Pos) (e f:Expr) (cpos:Pos):Prop where
 base:attributeBase o m X.env (eval o X.env) = eval o X.env
 few:((backTo cpos (starEach [e,f] X.env)).all (fun x=>!x.1) && (backToKw cpos (keywordEach [] X.env)).all (fun x=>x.1.isSome)
  && decide (([e,f]:List Expr).length+([]:List Keyword).length+(if ([]:List Keyword).isEmpty then 0 else 1) < 30)) = true
 line:(apos.endLine == cpos.line) = true
 trees:backTo cpos (starEach [e,f] X.env) = [(false,eval e X.env),(false,eval f X.env)]
section
variable {X:Cx} {pins:List (Addr × Obj)} {σ:St} {H:Hp} {s:Shared} {a:Addr} {y d:V} {u r:Value} {o:Option V} {A:Around} {E:Value→Shared→Prop}
end
section
variable {X:Cx} {o e f:Expr} {apos cpos:Pos} {td ty tx:TE}
end
section
variable {X:Cx} {pins:List (Addr × Obj)} {σ:St} {H:Hp} {s:Shared} {a:Addr} {kvs:List (Key × V)} {A:Around} {E:Value→Shared→Prop}
end
section
variable {X:Cx} {pins:List (Addr × Obj)} {σ:St} {H:Hp} {s:Shared} {a:Addr} {y:V} {u:Value} {A:Around} {E:Value→Shared→Prop}
end
end L2
end
section
namespace L2
open PySem PySem.Spec PyProof.Rows
abbrev TU:=St→Hp→(St→Hp→Prop)→Prop
def PU (X:Cx) (m:Sem Unit) (t:TU):Prop :=
 ∀ (pins:List (Addr × Obj)) (s:Shared) (σ:St) (H:Hp) (Q:St→Hp→Prop),Inv X pins σ H s→t σ H Q →
  wpAny (model X.prog X.w) X.A m (fun _ s'=>∃ σ' H',Inv X pins σ' H' s'∧Q σ' H') X.xe s
def PTs (X:Cx) (ifs:List Expr) (t:TT):Prop :=
 ∀ (pins:List (Addr × Obj)) (s:Shared) (σ:St) (H:Hp) (Q:Bool→Hp→Prop),Inv X pins σ H s→t σ H Q →
  wpAny (model X.prog X.w) X.A (forIn ifs true fun c r=>if r = true then do let ok ← isTrue c X.env (eval c X.env);pure (ForInStep.yield ok) else pure (ForInStep.yield r)) (TP X pins σ Q) X.xe s
section
variable {X:Cx}
theorem pts_nil:PTs X [] (fun _ H Q=>Q true H):=fun pins s σ H Q I h=>wpAny_tests_nil ⟨H,I,h⟩
theorem pts_one {c:Expr} {t:TT} (hc:PT X c t):PTs X [c] t:=fun pins s σ H Q I h=>wpAny_tests_one (hc pins s σ H Q I h)
def tLp (J:It) (g:TG) (tt:TT) (tb:TU):TU:=fun σ H Q=>∃ W:Nat→Nat→St→Hp→Prop,(∃ m,W 0 m σ H)∧∀ i m σ H,W i m σ H →
 (J.stop i H∧Q σ H)∨(J.go i H∧∀ x H',J.yld i H x H'→g x σ H' fun σ2 H2=>tt σ2 H2 fun b H3 =>
   if b = true then tb σ2 H3 fun σ4 H4=>∃ m',m' < m∧W (i+1) m' σ4 H4 else ∃ m',m' < m∧W (i+1) m' σ2 H3)
theorem cloop {e tg:Expr} {d:Nat} {ifs:List Expr} {ip:Pos} {it:Addr} {acc:Value} {body:Sem Unit} {J:It} {fp:List Addr} {tn:Nat→Heap→Prop} {g:TG} {tt:TT} {tb:TU}
 (hx:X.xe = fun _ _=>False) (hc:X.calm = true)
 (hq:(Code.compLoop e d (.ref it) acc X.env).quiet = true)
 (hden:(model X.prog X.w).den (.compLoop e d (.ref it) acc X.env) = (compTurn e d (.ref it) acc X.env).onRaise (fun x=>do noteFrame x X.env;theTreesLotGoes x))
 (hund:X.A.under (.compLoop e d (.ref it) acc X.env) = X.A)
 (hturn:compTurn e d (.ref it) acc X.env = (do
   standAt ip
   match ← pyNext (.ref it) with
   | none=>pure (.done .next)
   | some v =>
     letOwnedTupleGo tg (.ref it) v
     assign tg X.env v
     let mut ok:=true
     for c in ifs do
      if ok then ok ← isTrue c X.env (eval c X.env)
     if ok then body
     again (.compLoop e d (.ref it) acc X.env)))
 (T:Turn X.prog X.w X.K tg J fp it tn) (hg:PG X tg g) (ht:PTs X ifs tt) (hb:PU X body tb) {R:Result→Shared→Prop}
 {pins:List (Addr × Obj)} {s:Shared} {σ:St} {H:Hp} {Q:St→Hp→Prop} (I:Inv X pins σ H s) (st:tn 0 s.heap) (f:∀ b∈fp,FpOk X pins H b) (h:tLp J g tt tb σ H Q)
 (hR:∀ s' σ' H',Inv X pins σ' H' s'→Q σ' H'→R (.ok .next) s'):codeAny (model X.prog X.w) X.A (.compLoop e d (.ref it) acc X.env) R s:=by
 obtain ⟨W,⟨m0,w0⟩,turn⟩:=h
 have stat:∀ {H':Hp},(∀ b∈fp,H' b = none)→∀ b∈fp,FpOk X pins H' b:=fun hn b hb=>⟨hn b hb,(f b hb).2⟩
 refine codeAny_loop hq (fun n s'=>∃ i σ' H',Inv X pins σ' H' s'∧tn i s'.heap∧(∀ b∈fp,H' b = none)∧W i n σ' H') ?_ m0 ⟨0,σ,H,I,st,fun b hb=>(f b hb).1,w0⟩
 rintro n s3 ⟨i,σ3,H3,I3,st3,fr3,w3⟩
 rw [hden,hund,hturn]
 refine wpAny_noted ?_
 have cut:∀ {α:Type} {m:Sem α} {Q:α→Shared→Prop} {s:Shared} {E':Value→Shared→Prop},wpAny (model X.prog X.w) X.A m Q X.xe s→wpAny (model X.prog X.w) X.A m Q E' s:=fun z=>by
  rw [hx] at z
  exact wpAny_noRaise z
 refine wpAny_bind (wpAny_standAt (wpAny_bind ?_))
 rcases turn i n σ3 H3 w3 with ⟨stop,qn⟩ | ⟨go,step⟩
 · refine cut (thn (T.done X rfl rfl rfl hc i pins s3 σ3 H3 X.xe I3 (stat fr3) st3 stop) fun r s4 ⟨hr,I4⟩=>?_)
   subst hr
   exact wpAny_pure (hR s4 σ3 H3 I4 qn)
 · refine cut (thn (T.item X rfl rfl rfl hc i pins s3 σ3 H3 X.xe I3 (stat fr3) st3 go) fun r s4 ⟨u,hr,h4⟩=>?_)
   subst hr
   refine wpAny_bind (cut (thn h4 fun _ s5 ⟨x,H5,I5,r5,y5,st5,fr5⟩=>?_))
   have I5':=I5.pinned (stat fr5) (T.obj _ _ st5)
   refine wpAny_bind (cut (thn (hg _ s5 σ3 H5 x u _ I5' r5 (step x H5 y5)) fun _ s6 ⟨σ6,H6,I6,q6⟩=>?_))
   have again:∀ {σ7:St} {H7:Hp} {s7:Shared},Inv X (pins++pinsAt fp s5.heap) σ7 H7 s7→(∃ m',m' < n∧W (i+1) m' σ7 H7)→∃ m,m < n∧∃ i σ' H',Inv X pins σ' H' s7∧tn i s7.heap∧(∀ b∈fp,H' b = none)∧W i m σ' H':=fun {σ7 H7 s7} I7 n7=>by
    obtain ⟨m',hm,w7⟩:=n7
    refine ⟨m',hm,i+1,σ7,H7,I7.unpinned,T.keep _ _ _ st5 fun b hb o e=>(I7.pin (b,o) (List.mem_append_right _ (List.mem_append_right _ (mem_pinsAt hb e)))).1,fun b hb=>?_,w7⟩
    obtain ⟨o,e,d⟩:=T.obj _ _ st5 b hb
    exact (I7.pin (b,o) (List.mem_append_right _ (List.mem_append_right _ (mem_pinsAt hb e)))).2.1
   refine wpAny_bind (cut (thn (ht _ s6 σ6 H6 _ I6 q6) fun ok s7 ⟨H7,I7,q7⟩=>?_))
   cases ok with
   | false =>
     rw [if_neg Bool.false_ne_true] at q7
     exact wpAny_pure ⟨rfl,again I7 q7⟩
   | true =>
     rw [if_pos rfl] at q7
     refine wpAny_bind (cut (thn (hb _ s7 σ6 H7 _ I7 q7) fun _ s8 ⟨σ8,H8,I8,q8⟩=>?_))
     exact wpAny_pure ⟨rfl,again I8 q8⟩
end
end L2
end
section
namespace L2
open PySem PySem.Spec PyProof.Rows
def cloF (env:Env):List (Str × NameKind)→List (Str × Addr)→List (Str × Addr)
 | [],cs=>cs
 | (n,k)::r,cs=>cloF env r (if k == .free then (n,(env.cells.lookup n).getD 0)::cs else cs)
theorem clo_run {env:Env}:∀ (names:List (Str × NameKind)) (cs:List (Str × Addr)),(∀ x,(x,NameKind.free)∈names→∃ c,env.cells.lookup x = some c) →
 (forIn names cs fun x r=>match x with | (name,kind)=>(do
   if (kind == NameKind.free) = true then do
    let y ← cellOf env name
    pure (ForInStep.yield ((name,y)::r))
   else pure (ForInStep.yield r):Sem (ForInStep (List (Str × Addr))))) = (pure (cloF env names cs):Sem (List (Str × Addr)))
 | [],cs,_=>rfl
 | (n,k)::r,cs,h=>by
   have ih:=fun cs=>clo_run (env:=env) r cs fun x hx=>h x (List.mem_cons_of_mem _ hx)
   rw [List.forIn_cons]
   by_cases hk:k = .free
   · subst hk
     obtain ⟨c,e⟩:=h n List.mem_cons_self
     have e2:cellOf env n = pure c:=by unfold cellOf;rw [e]
     simp only [beq_self_eq_true,if_true,e2,pure_bind,cloF,e,Option.getD_some]
     exact ih _
   · have hb:(k == NameKind.free) = false:=by simpa using hk
     simp only [hb,Bool.false_eq_true,if_false,pure_bind,cloF]
     exact ih _
theorem clo_of {env:Env} {scope:Scope} (h:∀ x,(x,NameKind.free)∈scope.names→∃ c,env.cells.lookup x = some c):closureFor scope env = pure (cloF env scope.names []):=by
 have q:=clo_run (env:=env) scope.names [] h
 unfold closureFor
 rw [← bind_pure (pure (cloF env scope.names []):Sem _),← q]
theorem clo_mem {env:Env}:∀ (names:List (Str × NameKind)) (cs:List (Str × Addr)),(∀ x,(x,NameKind.free)∈names→∃ c,env.cells.lookup x = some c)→∀ p∈cloF env names cs,p∈cs∨env.cells.lookup p.1 = some p.2
 | [],cs,_,p,hp=>.inl hp
 | (n,k)::r,cs,h,p,hp=>by
   unfold cloF at hp
   have ih:=clo_mem (env:=env) r _ (fun x hx=>h x (List.mem_cons_of_mem _ hx)) p hp
   rcases ih with ih | ih
   · by_cases hk:k = .free
     · subst hk
       rw [if_pos (by simp)] at ih
       rcases List.mem_cons.mp ih with rfl | ih
       · obtain ⟨c,e⟩:=h n List.mem_cons_self
         right
         rw [e];rfl
       · exact .inl ih
     · rw [if_neg (by simpa using hk)] at ih
       exact .inl ih
   · exact .inr ih
theorem clo_has {env:Env}:∀ (names:List (Str × NameKind)) (cs:List (Str × Addr)) (x:Str),((x,NameKind.free)∈names∨∃ c,(x,c)∈cs)→∃ c,(x,c)∈cloF env names cs
 | [],cs,x,h=>by
   rcases h with h | h
   · cases h
   · exact h
 | (n,k)::r,cs,x,h=>by
   unfold cloF
   refine clo_has (env:=env) r _ x ?_
   rcases h with h | ⟨c,h⟩
   · rcases List.mem_cons.mp h with e | h
     · cases e
       right
       rw [if_pos (by simp)]
       exact ⟨_,List.mem_cons_self⟩
     · exact .inl h
   · right
     split
     · exact ⟨c,List.mem_cons_of_mem _ h⟩
     · exact ⟨c,h⟩
theorem lookup_of_mem {α:Type}:∀ {l:List (Str × α)} {x:Str} {c:α},(x,c)∈l→∃ d,l.lookup x = some d
 | [],_,_,h=>by cases h
 | (y,d)::r,x,c,h=>by
   rw [List.lookup_cons]
   cases e:x == y with
   | true=>exact ⟨d,rfl⟩
   | false =>
     rcases List.mem_cons.mp h with q | q
     · cases q;simp at e
     · exact lookup_of_mem q
structure CScope (X:Cx) (scope:Scope):Prop where
 kind:scope.kind = .function
 nocell:∀ y∈scope.names,y.2≠.cell
 names:∀ y∈scope.names,y.2 = .local→scope.names.lookup y.1 = some .local
 free:∀ x,(x,NameKind.free)∈scope.names→X.env.kindOf x = some .cell∨X.env.kindOf x = some .free
def cxC (X:Cx) (scope:Scope) (cl:List (Str × Addr)) (C:Addr) (Nc:List Str) (s:Shared) (H:Hp) (fp:List Addr):Cx :=
 { X with N:=Nc,s₀:=s,H₀:=H,env:=compEnvC scope cl C X.env,outer:=X.stack,ex:=fp,fn:=fun _=>false,pn:=[],xe:=fun _ _=>False }
theorem relabel_lookup {scope:Scope} {env:Env}:∀ (names:List (Str × NameKind)) (x:Str),
 (names.map fun (n,k)=>if (k == NameKind.free && env.scope.kind == .function && env.kindOf n == some .cell) then (n,NameKind.cell) else (n,k)).lookup x =
   (names.lookup x).map fun k=>if (k == NameKind.free && env.scope.kind == .function && env.kindOf x == some .cell) then NameKind.cell else k
 | [],x=>rfl
 | (n,k)::r,x=>by
   have ih:=relabel_lookup (scope:=scope) (env:=env) r x
   rw [List.map_cons]
   cases hx:x == n with
   | true =>
     have e:x = n:=by simpa using hx
     subst e
     by_cases hc:(k == NameKind.free && env.scope.kind == .function && env.kindOf x == some .cell) = true
     · simp only [hc,if_true,List.lookup_cons,beq_self_eq_true,Option.map_some]
     · simp only [hc,if_false,List.lookup_cons,beq_self_eq_true,Option.map_some,Bool.false_eq_true]
   | false =>
     by_cases hc:(k == NameKind.free && env.scope.kind == .function && env.kindOf n == some .cell) = true
     · simp only [hc,if_true,List.lookup_cons,hx]
       exact ih
     · simp only [hc,if_false,List.lookup_cons,hx,Bool.false_eq_true]
       exact ih
theorem comp_kind {scope:Scope} {env:Env} {cl:List (Str × Addr)} {C:Addr} (x:Str):(compEnvC scope cl C env).kindOf x =
 (scope.names.lookup x).map fun k=>if (k == NameKind.free && env.scope.kind == .function && env.kindOf x == some .cell) then NameKind.cell else k:=relabel_lookup (scope:=scope) (env:=env) scope.names x
theorem comp_cellfree {scope:Scope} {env:Env} {cl:List (Str × Addr)} {C:Addr} {x:Str} (nc:∀ y∈scope.names,y.2≠.cell) (h:(compEnvC scope cl C env).kindOf x = some .cell∨(compEnvC scope cl C env).kindOf x = some .free) :
 scope.names.lookup x = some .free:=by
 rw [comp_kind] at h
 cases e:scope.names.lookup x with
 | none=>rw [e] at h;simp at h
 | some k =>
   rw [e] at h
   have hm:=PySem.mem_of_lookup e
   have:=nc _ hm
   simp only [Option.map_some] at h
   cases k<;>simp_all
theorem inv_block {X:Cx} {scope:Scope} {C:Addr} {Nc:List Str} {s:Shared} {h1:Heap} {t1:Nat} {H:Hp} {fp:List Addr} {pins:List (Addr × Obj)} {σ:St}
 (S:CScope X scope) (I:Inv X pins σ H s) (hf:∀ b∈fp,FpOk X pins H b) (hfl:∀ b∈fp,b < s.heap.objs.size) (hC:C = s.heap.objs.size) (hns:h1.Ns C fun _=>none) (hk:∀ b o,s.heap.get? b = some o→h1.get? b = some o)
 (hN:∀ i x,i < X.N.length→Nc[i]? = some x→Vis scope x→X.N[i]? = some x∧scope.names.lookup x = some .free) (hl:X.N.length≤Nc.length) :
 Inv (cxC X scope (cloF X.env scope.names []) C Nc s H fp) [] (σ++List.replicate (Nc.length - X.N.length) none) H { s with heap:=h1,toks:=t1 }:=by
 have hcl:∀ x,(x,NameKind.free)∈scope.names→∃ c,X.env.cells.lookup x = some c:=fun x hx=>I.ok.has x (S.free x hx)
 have hlk:∀ x c,(cloF X.env scope.names []).lookup x = some c→X.env.cells.lookup x = some c:=fun x c e=>by
  have:=clo_mem scope.names [] hcl _ (PySem.mem_of_lookup e)
  rcases this with z | z
  · cases z
  · exact z
 subst hC
 have neC:∀ x c,(cloF X.env scope.names []).lookup x = some c→c < s.heap.objs.size:=fun x c e=>by
  obtain ⟨v,z⟩:=I.cell x c (hlk x c e)
  exact z.lt
 refine ⟨⟨I.ok.mod,S.kind,I.ok.glob,I.ok.blt,Nat.le_refl _,fun x y c e1 e2=>I.ok.inj x y c (hlk x c e1) (hlk y c e2),fun x hx=>?_,fun x c z _=>absurd z Bool.false_ne_true,I.ok.hd,I.ok.frames,.inl rfl,fun b hb=>⟨Nat.ne_of_lt (hfl b hb),fun x c e=>(hf b hb).2.2.2.2.1 x c (hlk x c e)⟩,
  I.bs,Nat.le_trans I.ok.bsz I.sz,fun b o e hb=>?_,fun b hb hz=>?_,I.stack,I.stkFree⟩,rfl,I.bare,Un.kept hk,⟨_,hns,fun i x v e1 e2 e3=>?_⟩,fun x c e=>?_,I.hok.fresh (Nat.le_refl _),fun x c e=>I.freeC x c (hlk x c e),fun p hp=>absurd (show p∈([]:List (Addr × Obj)) from hp) (by simp),I.hok.kept hk,?_⟩
 · have q:=comp_cellfree (cl:=cloF X.env scope.names []) (C:=s.heap.objs.size) S.nocell hx
   obtain ⟨c,hm⟩:=clo_has (env:=X.env) scope.names [] x (.inl (PySem.mem_of_lookup q))
   exact lookup_of_mem hm
 · obtain ⟨_,_,_,f3,_⟩:=hf b hb
   rcases f3 with z | z
   · exact I.ok.noex b o e z
   · exact absurd (Nat.lt_of_lt_of_le (Heap.lt_size e) (Nat.le_trans I.ok.bsz z)) (Nat.lt_irrefl _)
 · obtain ⟨_,f1,f2,_⟩:=hf b hb
   rcases List.mem_cons.mp (I.stkSub b hz) with q | q
   · exact f1 q
   · exact f2 q
 · have e1:Nc[i]? = some x:=e1
   have hi:i < X.N.length:=by
    by_cases hi:i < X.N.length
    · exact hi
    · rw [List.getElem?_append_right (by rw [I.len];omega),List.getElem?_replicate] at e2
      split at e2<;>cases e2
   rw [List.getElem?_append_left (by rw [I.len];exact hi)] at e2
   have vis:Vis scope x:=by
    have e3:Vis (relabel scope X.env) x:=e3
    unfold Vis relabel at e3
    rw [relabel_lookup (scope:=scope)] at e3
    unfold Vis
    cases q:scope.names.lookup x with
    | none=>rw [q] at e3;simp at e3
    | some k =>
      rw [q] at e3
      simp only [Option.map_some] at e3
      have:=S.nocell _ (PySem.mem_of_lookup q)
      cases k<;>simp_all
   obtain ⟨n1,n2⟩:=hN i x hi e1 vis
   obtain ⟨m,hn,hl'⟩:=I.loc
   have kd:=S.free x (PySem.mem_of_lookup n2)
   have visX:Vis X.env.scope x:=by
    rcases kd with z | z
    · exact .inr (.inl z)
    · exact .inr (.inr z)
   obtain ⟨u,r,l⟩:=hl' i x v n1 e2 visX
   refine ⟨u,r,.inr ?_⟩
   rcases l with ⟨k,_⟩ | ⟨k,c,ec,z⟩
   · rcases kd with z | z
     · rw [z] at k;cases k
     · rw [z] at k;cases k
   · obtain ⟨c',hm⟩:=clo_has (env:=X.env) scope.names [] x (.inl (PySem.mem_of_lookup n2))
     obtain ⟨c2,hc2⟩:=lookup_of_mem hm
     have:=hlk x c2 hc2
     rw [ec] at this
     cases this
     refine ⟨?_,c,hc2,?_⟩
     · show (compEnvC scope (cloF X.env scope.names []) s.heap.objs.size X.env).kindOf x = some .cell∨(compEnvC scope (cloF X.env scope.names []) s.heap.objs.size X.env).kindOf x = some .free
       rw [comp_kind,n2]
       simp only [Option.map_some]
       split
       · exact .inl rfl
       · exact .inr rfl
     · obtain ⟨o,ho,hd⟩:=z
       exact ⟨o,hk _ _ ho,hd⟩
 · obtain ⟨v,o,ho,hd⟩:=I.cell x c (hlk x c e)
   exact ⟨v,o,hk _ _ ho,hd⟩
 · show _ = Nc.length
   rw [List.length_append,List.length_replicate,I.len]
   omega
def tEmit (D:Addr) (te:TE):TU:=fun σ H Q=>te σ H fun y H'=>∃ xs,H' D = some (.lst xs)∧xs.length < sizeLine∧Q σ (upd H' D (.lst (xs++[y])))
theorem pu_emit {X:Cx} {elt:Expr} {te:TE} {D:Addr} (he:PE X elt te):PU X (do let _ ← call (.builtin "list.append") [.ref D,← eval elt X.env]) (tEmit D te):=by
 intro pins s σ H Q I h
 refine wpAny_bind (thn (he pins s σ H _ I h) fun u s1 ⟨y,H1,I1,r1,xs,hD,hz,q⟩=>?_)
 refine wpAny_bind (thn (mt_append pins s1 σ H1 (.ref D) [y] (.ref D) [u] (fun _ H'=>Q σ H') I1 rfl (.cons r1 .nil) ⟨D,xs,y,rfl,rfl,hD,hz,q⟩) fun _ s2 ⟨_,H2,I2,_,q2⟩=>?_)
 exact wpAny_pure ⟨σ,H2,I2,q2⟩
def tLC (k:Nat) (wi:TI) (g:TG) (tt:TT) (te:TE):TE:=fun σ H Q=>wi σ H fun J H1=>∀ D,H1 D = none →
 tLp J g tt (tEmit D te) (σ++List.replicate k none) (upd H1 D (.lst [])) fun _ H2=>Q (.ref D) H2
theorem inv_behind {X:Cx} {scope:Scope} {cl:List (Str × Addr)} {C:Addr} {Nc:List Str} {s s':Shared} {h2:Heap} {H H':Hp} {fp:List Addr} {pins:List (Addr × Obj)} {σ σ':St}
 (I:Inv X pins σ H s) (hf:∀ b∈fp,FpOk X pins H b) (hC:C = s.heap.objs.size) (J:Inv (cxC X scope cl C Nc s H fp) [] σ' H' s') (hs:Heap.SameBut C s'.heap h2):Inv X pins σ H' { s' with heap:=h2 }:=by
 have hok:HOk X.prog X.w H' h2:=fun b ob e=>by
  refine (J.hok b ob e).stay (fun c w' hc q=>(hs.2 c ?_).trans q) (fun _ q=>q) fun _ _ q=>q
  rintro rfl
  have fr:H' c = none:=J.free
  rcases hc with rfl | hc
  · rw [fr] at e;cases e
  · rw [fr] at hc;cases hc
 have neC:∀ b o,s.heap.get? b = some o→b≠C:=fun b o e=>by rw [hC];exact Nat.ne_of_lt (Heap.lt_size e)
 refine I.call' (s':={ s' with heap:=h2 }) (ch:=fp) J.os ⟨fun b o e n hb hx=>?_,fun b o e n hb hx=>?_,fun b o e n hx=>J.base.free b o e n hx,fun b o e hx=>?_,J.base.tups,J.base.frzs,J.base.tbls⟩ hok J.bare fun b hb=>?_
 · exact (hs.2 b (neC b o e)).trans (J.base.keep b o e n hb hx)
 · obtain ⟨sl,z⟩:=J.base.slot b o e n hb hx
   exact ⟨sl,(hs.2 b (neC b o e)).trans z⟩
 · obtain ⟨o',z⟩:=J.base.there b o e hx
   exact ⟨o',(hs.2 b (neC b o e)).trans z⟩
 · obtain ⟨f0,f1,f2,f3,f4,f5⟩:=hf b hb
   exact ⟨f3,f1,f4,f5⟩
theorem fpok_block {X:Cx} {scope:Scope} {C:Addr} {Nc:List Str} {s:Shared} {H H':Hp} {fp:List Addr} {pins:List (Addr × Obj)} {σ:St}
 (S:CScope X scope) (I:Inv X pins σ H s) (hf:∀ b∈fp,FpOk X pins H b) (hfl:∀ b∈fp,b < s.heap.objs.size) (hC:C = s.heap.objs.size) (hn:∀ b∈fp,H' b = none) :
 ∀ b∈fp,FpOk (cxC X scope (cloF X.env scope.names []) C Nc s H fp) [] H' b:=fun b hb=>by
 have hcl:∀ x,(x,NameKind.free)∈scope.names→∃ c,X.env.cells.lookup x = some c:=fun x hx=>I.ok.has x (S.free x hx)
 obtain ⟨f0,f1,f2,f3,f4,f5⟩:=hf b hb
 refine ⟨hn b hb,?_,fun z=>?_,.inl hb,fun x c e=>?_,fun p hp=>absurd (show p∈([]:List (Addr × Obj)) from hp) (by simp)⟩
 · show b≠C
   rw [hC];exact Nat.ne_of_lt (hfl b hb)
 · rcases List.mem_cons.mp (I.stkSub b z) with q | q
   · exact f1 q
   · exact f2 q
 · have:=clo_mem scope.names [] hcl _ (PySem.mem_of_lookup e)
   rcases this with z | z
   · cases z
   · exact f4 x c z
theorem pe_lcomp {X:Cx} {elt tg iter:Expr} {ifs:List Expr} {scope:Scope} {pos:Pos} {Nc:List Str} {wi:TI} {g:TG} {tt:TT} {te:TE}
 (hx:X.xe = fun _ _=>False) (hc:X.calm = true) (S:CScope X scope) (hN:∀ i x,i < X.N.length→Nc[i]? = some x→Vis scope x→X.N[i]? = some x∧scope.names.lookup x = some .free) (hl:X.N.length≤Nc.length)
 (hi:PI X tg iter wi) (hg:∀ cl C s H fp,PG (cxC X scope cl C Nc s H fp) tg g) (ht:∀ cl C s H fp,PTs (cxC X scope cl C Nc s H fp) ifs tt) (he:∀ cl C s H fp,PE (cxC X scope cl C Nc s H fp) elt te)
 (hs:∀ x,foldedSetIterable iter X.env x = pure x):PE X (.ListComp elt [⟨tg,iter,ifs,0⟩] scope pos) (tLC (Nc.length - X.N.length) wi g tt te):=by
 intro pins s σ H Q I h
 rw [eval_ListComp]
 have cutE:∀ {α:Type} {m:Sem α} {Q:α→Shared→Prop} {s:Shared} {E':Value→Shared→Prop},wpAny (model X.prog X.w) X.A m Q X.xe s→wpAny (model X.prog X.w) X.A m Q E' s:=fun z=>by
  rw [hx] at z
  exact wpAny_noRaise z
 refine wpAny_comprehension_free (use:=none) rfl hs (clo_of fun x hz=>I.ok.has x (S.free x hz)) S.kind S.names (thn (hi pins s σ H _ I h) fun v s1 h1=>thn h1 fun itv s2 h2=>?_)
 obtain ⟨it,fp,tn,J,H2,e,I2,T,st2,f2,q⟩:=h2
 subst e
 refine wpAny_newObj_type (hd:=by size_fits) ?_
 have hfr:=I2.fresh
 have I3:Inv X pins σ (upd H2 s2.heap.objs.size (.lst [])) { s2 with heap:=s2.heap.push { cls:=.type "list",data:=.seq ([]:List Value).toArray } }:=I2.lnew (t':=s2.toks) (its:=[]) .nil (Nat.zero_le _)
 have st3:tn 0 (s2.heap.push { cls:=.type "list",data:=.seq ([]:List Value).toArray }):=T.keep _ _ _ st2 fun b _ o e=>Heap.get?_push_of_some _ e
 have fl3:∀ b∈fp,b < s2.heap.objs.size:=fun b hb=>by
  obtain ⟨o,e,_⟩:=T.obj _ _ st2 b hb
  exact Heap.lt_size e
 have ne3:∀ b∈fp,upd H2 s2.heap.objs.size (.lst []) b = none:=fun b hb=>by rw [upd_ne (Nat.ne_of_lt (fl3 b hb))];exact (f2 b hb).1
 have f3:∀ b∈fp,FpOk X pins (upd H2 s2.heap.objs.size (.lst [])) b:=fun b hb=>⟨ne3 b hb,(f2 b hb).2⟩
 have q3:=q s2.heap.objs.size hfr
 generalize hH3:upd H2 s2.heap.objs.size (.lst []) = H3 at I3 ne3 f3 q3
 generalize hs3:({ s2 with heap:=s2.heap.push { cls:=.type "list",data:=.seq ([]:List Value).toArray } }:Shared) = s3 at I3
 have hs3h:s3.heap = s2.heap.push { cls:=.type "list",data:=.seq ([]:List Value).toArray }:=by rw [← hs3]
 rw [← hs3h] at st3
 have fl4:∀ b∈fp,b < s3.heap.objs.size:=fun b hb=>by rw [hs3h,Heap.size_push];exact Nat.lt_succ_of_lt (fl3 b hb)
 refine wpAny_newFunctionEnv S.nocell (by intro y hy;simp at hy) (fun h1 hns hsb=>?_) S.kind
 have keep1:∀ b o,s3.heap.get? b = some o→h1.get? b = some o:=fun b o e=>hsb.extBut b o (Nat.ne_of_lt (Heap.lt_size e)) (Heap.get?_push_of_some _ e)
 have J0:=inv_block (h1:=h1) (t1:=s3.toks+([]:List (Str × Value)).length) S I3 f3 fl4 rfl (by simpa using hns) keep1 hN hl
 have st4:tn 0 h1:=T.keep _ _ _ st3 fun b _ o e=>keep1 b o e
 have loop:∀ s4:Shared,s4 = { s3 with heap:=h1,toks:=s3.toks+([]:List (Str × Value)).length } →
  codeAny (model X.prog X.w) X.A (.compLoop (.ListComp elt [⟨tg,iter,ifs,0⟩] scope pos) 0 (.ref it) (.ref s2.heap.objs.size) (compEnvC scope (cloF X.env scope.names []) s3.heap.objs.size X.env))
   (compPost (model X.prog X.w) X.A X.xe none (EP X pins σ Q) (.ref s2.heap.objs.size) s3.heap.objs.size) s4:=by
  rintro s4 rfl
  refine cloop (X:=cxC X scope (cloF X.env scope.names []) s3.heap.objs.size Nc s3 H3 fp) (ip:=iter.pos) (body:=(do let _ ← call (.builtin "list.append") [.ref s2.heap.objs.size,← eval elt (compEnvC scope (cloF X.env scope.names []) s3.heap.objs.size X.env)]))
   rfl hc rfl rfl rfl (by rw [compTurn_list]<;>rfl) T (hg _ _ _ _ _) (ht _ _ _ _ _) (pu_emit (he _ _ _ _ _)) J0 st4 (fpok_block S I3 f3 fl4 rfl ne3) q3 ?_
  intro s' σ' H' J' q'
  obtain ⟨m,hn,_⟩:=J'.loc
  exact ⟨m,hn,fun h2 hs2=>⟨.ref s2.heap.objs.size,H',inv_behind I3 f3 rfl J' hs2,rfl,q'⟩⟩
 exact codeAny_compStart_list (loop _ rfl) (T.self _ _ _ _ _ st4 (loop _ rfl))
end L2
end
section
namespace L2
open PySem PySem.Spec PyProof.Rows
theorem ps_lcomp {X:Cx} {elt tg iter:Expr} {ifs:List Expr} {scope:Scope} {pos spos py:Pos} {Nc:List Str} {wi:TI} {g:TG} {tt:TT} {te:TE} {i:Nat} {y:Str}
 (hx:X.xe = fun _ _=>False) (hc:X.calm = true) (S:CScope X scope) (hN:∀ i x,i < X.N.length→Nc[i]? = some x→Vis scope x→X.N[i]? = some x∧scope.names.lookup x = some .free) (hl:X.N.length≤Nc.length)
 (hi:PI X tg iter wi) (hg:∀ cl C s H fp,PG (cxC X scope cl C Nc s H fp) tg g) (ht:∀ cl C s H fp,PTs (cxC X scope cl C Nc s H fp) ifs tt) (he:∀ cl C s H fp,PE (cxC X scope cl C Nc s H fp) elt te)
 (hs:∀ x,foldedSetIterable iter X.env x = pure x)
 (hNd:X.N.Nodup) (hy:X.N[i]? = some y) (hv:Loc X.env.scope y) (hf:X.fn y = true∨X.env.scope.names.lookup y = some .local)
 (hsw:swapsWith (.ListComp elt [⟨tg,iter,ifs,0⟩] scope pos) (some (.Name y py)) spos.line X.env = pure true) :
 PS X (.Assign [.Name y py] (.ListComp elt [⟨tg,iter,ifs,0⟩] scope pos) spos) (tAsg (tLC (Nc.length - X.N.length) wi g tt te) (gName i)):=by
 intro pins s σ H Q I h
 rw [exec_Assign_Name_used _ _ _ _ hsw]
 refine wpAny_bind (wpAny_standAt (wpAny_bind ?_))
 show wpAny _ X.A (do let _ ← comprehension (.ListComp elt [⟨tg,iter,ifs,0⟩] scope pos) scope X.env _ (newList []) false (eval iter X.env) (some (assign (.Name y py) X.env))) _ _ s
 refine wpAny_bind (wpAny_mono (wpAny_comprehension_free (use:=some (assign (.Name y py) X.env)) (Q:=fun _ s'=>SP X pins Q .next s') rfl hs (clo_of fun x hz=>I.ok.has x (S.free x hz)) S.kind S.names
  (thn (hi pins s σ H _ I h) fun v s1 h1=>thn h1 fun itv s2 h2=>?_)) (fun _ s' hq=>wpAny_pure (wpAny_pure hq)) fun _ _ e=>e)
 obtain ⟨it,fp,tn,J,H2,e,I2,T,st2,f2,q⟩:=h2
 subst e
 refine wpAny_newObj_type (hd:=by size_fits) ?_
 have hfr:=I2.fresh
 have I3:Inv X pins σ (upd H2 s2.heap.objs.size (.lst [])) { s2 with heap:=s2.heap.push { cls:=.type "list",data:=.seq ([]:List Value).toArray } }:=I2.lnew (t':=s2.toks) (its:=[]) .nil (Nat.zero_le _)
 have st3:tn 0 (s2.heap.push { cls:=.type "list",data:=.seq ([]:List Value).toArray }):=T.keep _ _ _ st2 fun b _ o e=>Heap.get?_push_of_some _ e
 have fl3:∀ b∈fp,b < s2.heap.objs.size:=fun b hb=>by
  obtain ⟨o,e,_⟩:=T.obj _ _ st2 b hb
  exact Heap.lt_size e
 have ne3:∀ b∈fp,upd H2 s2.heap.objs.size (.lst []) b = none:=fun b hb=>by rw [upd_ne (Nat.ne_of_lt (fl3 b hb))];exact (f2 b hb).1
 have f3:∀ b∈fp,FpOk X pins (upd H2 s2.heap.objs.size (.lst [])) b:=fun b hb=>⟨ne3 b hb,(f2 b hb).2⟩
 have q3:=q s2.heap.objs.size hfr
 generalize hH3:upd H2 s2.heap.objs.size (.lst []) = H3 at I3 ne3 f3 q3
 generalize hs3:({ s2 with heap:=s2.heap.push { cls:=.type "list",data:=.seq ([]:List Value).toArray } }:Shared) = s3 at I3
 have hs3h:s3.heap = s2.heap.push { cls:=.type "list",data:=.seq ([]:List Value).toArray }:=by rw [← hs3]
 rw [← hs3h] at st3
 have fl4:∀ b∈fp,b < s3.heap.objs.size:=fun b hb=>by rw [hs3h,Heap.size_push];exact Nat.lt_succ_of_lt (fl3 b hb)
 refine wpAny_newFunctionEnv S.nocell (by intro y hy;simp at hy) (fun h1 hns hsb=>?_) S.kind
 have keep1:∀ b o,s3.heap.get? b = some o→h1.get? b = some o:=fun b o e=>hsb.extBut b o (Nat.ne_of_lt (Heap.lt_size e)) (Heap.get?_push_of_some _ e)
 have J0:=inv_block (h1:=h1) (t1:=s3.toks+([]:List (Str × Value)).length) S I3 f3 fl4 rfl (by simpa using hns) keep1 hN hl
 have st4:tn 0 h1:=T.keep _ _ _ st3 fun b _ o e=>keep1 b o e
 have loop:∀ s4:Shared,s4 = { s3 with heap:=h1,toks:=s3.toks+([]:List (Str × Value)).length } →
  codeAny (model X.prog X.w) X.A (.compLoop (.ListComp elt [⟨tg,iter,ifs,0⟩] scope pos) 0 (.ref it) (.ref s2.heap.objs.size) (compEnvC scope (cloF X.env scope.names []) s3.heap.objs.size X.env))
   (compPost (model X.prog X.w) X.A X.xe (some (assign (.Name y py) X.env)) (fun _ s'=>SP X pins Q .next s') (.ref s2.heap.objs.size) s3.heap.objs.size) s4:=by
  rintro s4 rfl
  refine cloop (X:=cxC X scope (cloF X.env scope.names []) s3.heap.objs.size Nc s3 H3 fp) (ip:=iter.pos) (body:=(do let _ ← call (.builtin "list.append") [.ref s2.heap.objs.size,← eval elt (compEnvC scope (cloF X.env scope.names []) s3.heap.objs.size X.env)]))
   rfl hc rfl rfl rfl (by rw [compTurn_list]<;>rfl) T (hg _ _ _ _ _) (ht _ _ _ _ _) (pu_emit (he _ _ _ _ _)) J0 st4 (fpok_block S I3 f3 fl4 rfl ne3) q3 ?_
  intro s' σ' H' J' q'
  have hC:H' s3.heap.objs.size = none:=J'.free
  obtain ⟨m,hn,_⟩:=J'.loc
  have hn:s'.heap.Ns s3.heap.objs.size m:=hn
  -- the frame's state,the block's own names still there
  have I4:Inv X pins σ H' s':=inv_behind I3 f3 rfl J' (Heap.SameBut.refl _ _)
  obtain ⟨oc,es,ep,ho,hd,hr⟩:=id hn
  have above:X.s₀.heap.objs.size≤s3.heap.objs.size:=I3.sz
  have hL:s3.heap.objs.size≠X.env.locals:=Nat.ne_of_gt I3.lt
  have hfs:s3.heap.objs.size∉X.fs:=I3.nofs (Nat.le_refl _)
  have I5:Inv X (pins++[(s3.heap.objs.size,oc)]) σ H' s':=I4.pins_of fun p hp=>by
   rcases List.mem_append.mp hp with hp | hp
   · exact I4.pin p (List.mem_append_right _ hp)
   · have:p = (s3.heap.objs.size,oc):=by simpa using hp
     subst this
     exact ⟨ho,hC,hL,hfs,fun v z=>by rw [hd] at z;cases z⟩
  show wpAny _ _ (assign (.Name y py) X.env (.ref s2.heap.objs.size)) _ _ _
  refine wpAny_assign_Name (store_ok (v:=.ref s2.heap.objs.size) I5 hNd hy hv rfl (fun s5 I6=>?_) hf)
  have hp6:=I6.pin (s3.heap.objs.size,oc) (List.mem_append_right _ (List.mem_append_right _ (by simp)))
  refine ⟨m,⟨oc,es,ep,hp6.1,hd,hr⟩,fun h' hsb'=>?_⟩
  have I7:Inv X pins (σ.set i (some (.ref s2.heap.objs.size))) H' s5:=I6.unpinned
  refine ⟨_,H',I7.turned (h':=h') (t':=s5.toks) (it:=s3.heap.objs.size) (fun b o hb e=>(hsb'.2 b hb).trans e) hC hL (.inr above) (fun x c e z=>?_) (fun p hp z=>?_),q'⟩
  · obtain ⟨v,o,hoc,hdc⟩:=I3.cell x c e
    have:=Heap.lt_size hoc
    rw [z] at this
    exact absurd this (Nat.lt_irrefl _)
  · have hq:=(I3.pin p hp).1
    have:=Heap.lt_size hq
    rw [z] at this
    exact absurd this (Nat.lt_irrefl _)
 exact codeAny_compStart_list (loop _ rfl) (T.self _ _ _ _ _ st4 (loop _ rfl))
end L2
end
section
namespace PP
open PySem PySem.W PyProof.Rows
def ans {α:Type} (lt:Nat→Nat→Bool):KasT α→α
 | .ret a=>a
 | .ask i j k=>ans lt (k (lt i j))
theorem ans_bind {α β:Type} (lt:Nat→Nat→Bool) (f:α→KasT β):∀ t:KasT α,ans lt (t.bind f) = ans lt (f (ans lt t))
 | .ret a=>rfl
 | .ask i j k=>by
   show ans lt ((k (lt i j)).bind f) = _
   rw [ans_bind lt f (k (lt i j))]
   rfl
theorem ans_ask {α:Type} (lt:Nat→Nat→Bool) (i j:Nat) (k:Bool→KasT α):ans lt (.ask i j k) = ans lt (k (lt i j)):=rfl
theorem ans_ret {α:Type} (lt:Nat→Nat→Bool) (a:α):ans lt (.ret a) = a:=rfl
structure Ord (lt:Nat→Nat→Bool):Prop where
 as:∀ a b,lt a b = true→lt b a = false
 tr:∀ a b c,lt b a = false→lt c b = false→lt c a = false
section
variable {lt:Nat→Nat→Bool} (O:Ord lt)
def Up (lt:Nat→Nat→Bool) (p:Array Nat) (m:Nat):Prop:=∀ i j,i≤j→j < m→lt (p.getD j 0) (p.getD i 0) = false
def Dn' (lt:Nat→Nat→Bool) (p:Array Nat) (m:Nat):Prop:=∀ i j,i≤j→j < m→lt (p.getD i 0) (p.getD j 0) = false
include O
theorem Ord.refl (a:Nat):lt a a = false:=by
 cases h:lt a a with
 | false=>rfl
 | true=>have:=O.as a a h;rw [h] at this;cases this
theorem Up.one (p:Array Nat):Up lt p 1:=fun i j h1 h2=>by
 have e1:j = 0:=by omega
 have e2:i = 0:=by omega
 subst e1;subst e2
 exact O.refl _
theorem Up.more {p:Array Nat} {n:Nat} (h:Up lt p n) (hn:1≤n) (h2:lt (p.getD n 0) (p.getD (n - 1) 0) = false):Up lt p (n+1):=fun i j h3 h4=>by
 by_cases e:j = n
 · subst e
   by_cases e':i = j
   · subst e';exact O.refl _
   · exact O.tr _ _ _ (h i (j - 1) (by omega) (by omega)) h2
 · exact h i j h3 (by omega)
theorem Dn'.more {p:Array Nat} {n:Nat} (h:Dn' lt p n) (hn:1≤n) (h2:lt (p.getD (n - 1) 0) (p.getD n 0) = false):Dn' lt p (n+1):=fun i j h3 h4=>by
 by_cases e:j = n
 · subst e
   by_cases e':i = j
   · subst e';exact O.refl _
   · exact O.tr _ _ _ h2 (h i (j - 1) (by omega) (by omega))
 · exact h i j h3 (by omega)
theorem asc_ok (p:Array Nat):∀ (f n:Nat),1≤n→Up lt p n→n≤ans lt (kas_asc p f n)∧ans lt (kas_asc p f n)≤n+f∧Up lt p (ans lt (kas_asc p f n))∧(ans lt (kas_asc p f n) < n+f→lt (p.getD (ans lt (kas_asc p f n)) 0) (p.getD (ans lt (kas_asc p f n) - 1) 0) = true)
 | 0,n,_,h=>⟨Nat.le_refl _,Nat.le_refl _,h,fun z=>absurd z (Nat.lt_irrefl _)⟩
 | f+1,n,hn,h=>by
   unfold kas_asc
   rw [ans_ask]
   cases c:lt (p.getD n 0) (p.getD (n - 1) 0) with
   | true =>
     rw [if_pos rfl,ans_ret]
     exact ⟨Nat.le_refl _,by omega,h,fun _=>c⟩
   | false =>
     rw [if_neg Bool.false_ne_true]
     obtain ⟨a1,a2,a3,a4⟩:=asc_ok p f (n+1) (by omega) (h.more O hn c)
     exact ⟨by omega,by omega,a3,fun z=>a4 (by omega)⟩
omit O in
theorem getD_eq (p:Array Nat) (k:Nat):p.getD k 0 = (p[k]?).getD 0:=by
 simp [Array.getD_eq_getD_getElem?]
omit O in
theorem rev_get {p:Array Nat} {i j:Nat} (hj:j≤p.size) (k:Nat):(kas_rev p i j).getD k 0 = if i≤k∧k < j then p.getD (i+j - 1 - k) 0 else p.getD k 0:=by
 rw [getD_eq,kas_rev,getElem?_mirror hj ((j - i) / 2) (by omega) k]
 by_cases h:i≤k∧k < j
 · rw [if_pos h]
   by_cases h2:(i≤k∧k < i+(j - i) / 2)∨(j - (j - i) / 2≤k∧k < j)
   · rw [if_pos h2,getD_eq]
   · rw [if_neg h2,getD_eq]
     have:i+j - 1 - k = k:=by omega
     rw [this]
 · rw [if_neg h]
   by_cases h2:(i≤k∧k < i+(j - i) / 2)∨(j - (j - i) / 2≤k∧k < j)
   · exfalso;omega
   · rw [if_neg h2,getD_eq]
omit O in
theorem rev_size (p:Array Nat) (i j:Nat):(kas_rev p i j).size = p.size:=mirror_size _ _ _ _
omit O in
theorem rev_perm (p:Array Nat) (i j:Nat):(kas_rev p i j).Perm p:=mirror_perm _ _ _ _
theorem Dn'.rev {p:Array Nat} {n:Nat} (h:Dn' lt p n) (hn:n≤p.size):Up lt (kas_rev p 0 n) n:=fun i j h1 h2=>by
 rw [rev_get hn,rev_get hn,if_pos ⟨by omega,h2⟩,if_pos ⟨by omega,by omega⟩]
 exact h _ _ (by omega) (by omega)
def Eqv (lt:Nat→Nat→Bool) (p:Array Nat) (a b:Nat):Prop:=∀ i j,a≤i→i < b→a≤j→j < b→lt (p.getD i 0) (p.getD j 0) = false
theorem Dn'.turn {p:Array Nat} {n a:Nat} (h:Dn' lt p n) (hn:n≤p.size) (e:Eqv lt p a n):Dn' lt (kas_rev p a n) n:=fun i j h1 h2=>by
 rw [rev_get hn,rev_get hn]
 by_cases hi:a≤i
 · rw [if_pos ⟨hi,by omega⟩,if_pos ⟨by omega,h2⟩]
   exact e _ _ (by omega) (by omega) (by omega) (by omega)
 · rw [if_neg (by omega)]
   by_cases hj:a≤j
   · rw [if_pos ⟨hj,h2⟩]
     exact h _ _ (by omega) (by omega)
   · rw [if_neg (by omega)]
     exact h _ _ h1 h2
theorem desc_ok:∀ (f:Nat) (p:Array Nat) (n q:Nat),1≤n→q < n→n+f≤p.size→Dn' lt p n→Eqv lt p (n - (q+1)) n →
 let r:=ans lt (kas_desc f p n q)
 r.1.size = p.size∧r.1.Perm p∧n≤r.2.1∧r.2.1≤n+f∧r.2.2 < r.2.1∧Dn' lt r.1 r.2.1∧Eqv lt r.1 (r.2.1 - (r.2.2+1)) r.2.1
 | 0,p,n,q,hn,hq,hz,h,e=>⟨rfl,Array.Perm.refl _,Nat.le_refl _,Nat.le_refl _,hq,h,e⟩
 | f+1,p,n,q,hn,hq,hz,h,e=>by
   unfold kas_desc
   rw [ans_ask]
   cases c:lt (p.getD n 0) (p.getD (n - 1) 0) with
   | true =>
     rw [if_pos rfl]
     have c':=O.as _ _ c
     have one:∀ p':Array Nat,Eqv lt p' (n+1 - (0+1)) (n+1):=fun p' i j h1 h2 h3 h4=>by
      have e1:i = j:=by omega
      rw [e1];exact O.refl _
     by_cases hq0:q > 0
     · rw [if_pos hq0]
       have hT:Dn' lt (kas_rev p (n - (q+1)) n) (n+1):=by
        refine (h.turn O (by omega) e).more O hn ?_
        rw [rev_get (by omega),rev_get (by omega),if_pos ⟨by omega,by omega⟩,if_neg (by omega)]
        exact O.tr _ _ _ c' (e _ _ (by omega) (by omega) (by omega) (by omega))
       obtain ⟨a1,a2,a3,a4,a5,a6,a7⟩:=desc_ok f (kas_rev p (n - (q+1)) n) (n+1) 0 (by omega) (by omega) (by rw [rev_size];omega) hT (one _)
       exact ⟨by rw [a1,rev_size],a2.trans (rev_perm _ _ _),by omega,by omega,a5,a6,a7⟩
     · rw [if_neg hq0]
       obtain ⟨a1,a2,a3,a4,a5,a6,a7⟩:=desc_ok f p (n+1) 0 (by omega) (by omega) (by omega) (h.more O hn c') (one _)
       exact ⟨a1,a2,by omega,by omega,a5,a6,a7⟩
   | false =>
     rw [if_neg Bool.false_ne_true,ans_ask]
     cases d:lt (p.getD (n - 1) 0) (p.getD n 0) with
     | true =>
       rw [if_pos rfl,ans_ret]
       exact ⟨rfl,Array.Perm.refl _,Nat.le_refl _,Nat.le_add_right _ _,hq,h,e⟩
     | false =>
       rw [if_neg Bool.false_ne_true]
       have hE:Eqv lt p (n+1 - (q+1+1)) (n+1):=fun i j h1 h2 h3 h4=>by
        by_cases ei:i = n
        · subst ei
          by_cases ej:j = i
          · subst ej;exact O.refl _
          · exact O.tr _ _ _ (e _ _ (by omega) (by omega) (by omega) (by omega)) c
        · by_cases ej:j = n
          · subst ej
            exact O.tr _ _ _ d (e _ _ (by omega) (by omega) (by omega) (by omega))
          · exact e _ _ (by omega) (by omega) (by omega) (by omega)
       obtain ⟨a1,a2,a3,a4,a5,a6,a7⟩:=desc_ok f p (n+1) (q+1) (by omega) (by omega) (by omega) (h.more O hn d) hE
       exact ⟨a1,a2,by omega,by omega,a5,a6,a7⟩
theorem tail3_ok (p:Array Nat) (n m:Nat) (hn:1≤n) (hm:n≤m) (hz:m≤p.size) (h:Dn' lt p n) :
 let r:=ans lt (kas_tail3 n m p)
 r.2.size = p.size∧r.2.Perm p∧1≤r.1∧r.1≤m∧Up lt r.2 r.1:=by
 unfold kas_tail3
 rw [ans_bind,ans_ret]
 obtain ⟨a1,a2,a3,_⟩:=asc_ok O (kas_rev p 0 n) (m - n) n hn (h.rev O (by omega))
 exact ⟨rev_size _ _ _,rev_perm _ _ _,by omega,by omega,a3⟩
theorem descPart_ok (p:Array Nat) (n m:Nat) (hn:1≤n) (hm:n < m) (hz:m≤p.size) (h:Dn' lt p (n+1)) :
 let r:=ans lt (kas_descPart n m p)
 r.2.size = p.size∧r.2.Perm p∧1≤r.1∧r.1≤m∧Up lt r.2 r.1:=by
 unfold kas_descPart
 rw [ans_bind]
 have one:Eqv lt p (n+1 - (0+1)) (n+1):=fun i j h1 h2 h3 h4=>by
  have e1:i = j:=by omega
  rw [e1];exact O.refl _
 obtain ⟨a1,a2,a3,a4,a5,a6,a7⟩:=desc_ok O (m - (n+1)) p (n+1) 0 (by omega) (by omega) (by omega) h one
 generalize ans lt (kas_desc (m - (n+1)) p (n+1) 0) = r at a1 a2 a3 a4 a5 a6 a7
 by_cases hq:r.2.2 > 0
 · rw [if_pos hq]
   obtain ⟨b1,b2,b3,b4,b5⟩:=tail3_ok O (kas_rev r.1 (r.2.1 - (r.2.2+1)) r.2.1) r.2.1 m (by omega) (by omega) (by rw [rev_size];omega) (a6.turn O (by omega) a7)
   exact ⟨by rw [b1,rev_size,a1],(b2.trans (rev_perm _ _ _)).trans a2,b3,b4,b5⟩
 · rw [if_neg hq]
   obtain ⟨b1,b2,b3,b4,b5⟩:=tail3_ok O r.1 r.2.1 m (by omega) (by omega) (by omega) a6
   exact ⟨by rw [b1,a1],b2.trans a2,b3,b4,b5⟩
theorem count_ok (p:Array Nat) (m:Nat) (hm:1≤m) (hz:m≤p.size) :
 let r:=ans lt (kas_count m p)
 r.2.size = p.size∧r.2.Perm p∧1≤r.1∧r.1≤m∧Up lt r.2 r.1:=by
 unfold kas_count
 rw [ans_bind]
 obtain ⟨a1,a2,a3,a4⟩:=asc_ok O p (m - 1) 1 (Nat.le_refl _) (Up.one O p)
 generalize ans lt (kas_asc p (m - 1) 1) = n at a1 a2 a3 a4
 by_cases e:(n == m) = true
 · rw [if_pos e,ans_ret]
   exact ⟨rfl,Array.Perm.refl _,a1,by omega,a3⟩
 · rw [if_neg e]
   have ne:n≠m:=fun z=>e (by rw [z];simp)
   have c:=a4 (by omega)
   by_cases h1:n > 1
   · rw [if_pos h1,ans_ask]
     cases d:lt (p.getD 0 0) (p.getD (n - 1) 0) with
     | true =>
       rw [if_pos rfl,ans_ret]
       exact ⟨rfl,Array.Perm.refl _,a1,by omega,a3⟩
     | false =>
       rw [if_neg Bool.false_ne_true]
       have hE:Eqv lt p 0 n:=fun i j _ hi _ hj=>by
        have x1:lt (p.getD 0 0) (p.getD j 0) = false:=O.tr _ _ _ (a3 j (n - 1) (by omega) (by omega)) d
        exact O.tr _ _ _ x1 (a3 0 i (by omega) hi)
       have hD:Dn' lt (kas_rev p 0 n) (n+1):=by
        refine (Dn'.turn O (p:=p) (n:=n) (a:=0) (fun i j hi hj=>hE i j (by omega) (by omega) (by omega) (by omega)) (by omega) hE).more O a1 ?_
        rw [rev_get (by omega),rev_get (by omega),if_pos ⟨by omega,by omega⟩,if_neg (by omega)]
        exact O.tr _ _ _ (O.as _ _ c) (hE _ _ (by omega) (by omega) (by omega) (by omega))
       obtain ⟨b1,b2,b3,b4,b5⟩:=descPart_ok O (kas_rev p 0 n) n m a1 (by omega) (by rw [rev_size];omega) hD
       exact ⟨by rw [b1,rev_size],b2.trans (rev_perm _ _ _),b3,b4,b5⟩
   · rw [if_neg h1]
     have e1:n = 1:=by omega
     subst e1
     have hD:Dn' lt p (1+1):=by
      refine Dn'.more O (n:=1) (fun i j h1 h2=>?_) (Nat.le_refl _) (O.as _ _ c)
      have e1:i = j:=by omega
      rw [e1];exact O.refl _
     exact descPart_ok O p 1 m (Nat.le_refl _) (by omega) hz hD
theorem place_ok (p:Array Nat) (k:Nat) (h:Up lt p k):∀ (f l r:Nat),l≤r→r≤k→r - l≤f→(∀ i,i < l→lt (p.getD k 0) (p.getD i 0) = false)→(∀ i,r≤i→i < k→lt (p.getD i 0) (p.getD k 0) = false) →
 let x:=ans lt (kas_place p k f l r)
 x≤k∧(∀ i,i < x→lt (p.getD k 0) (p.getD i 0) = false)∧∀ i,x≤i→i < k→lt (p.getD i 0) (p.getD k 0) = false
 | 0,l,r,h1,h2,h3,h4,h5=>by
   have e:l = r:=by omega
   subst e
   exact ⟨h2,h4,h5⟩
 | f+1,l,r,h1,h2,h3,h4,h5=>by
   unfold kas_place
   by_cases hlr:l ≥ r
   · rw [if_pos hlr,ans_ret]
     have e:l = r:=by omega
     subst e
     exact ⟨h2,h4,h5⟩
   · rw [if_neg hlr,ans_ask]
     cases c:lt (p.getD k 0) (p.getD ((l+r) / 2) 0) with
     | true =>
       rw [if_pos rfl]
       refine place_ok p k h f l ((l+r) / 2) (by omega) (by omega) (by omega) h4 fun i hi hk=>?_
       exact O.tr _ _ _ (O.as _ _ c) (h _ i (by omega) hk)
     | false =>
       rw [if_neg Bool.false_ne_true]
       refine place_ok p k h f ((l+r) / 2+1) r (by omega) h2 (by omega) (fun i hi=>?_) h5
       exact O.tr _ _ _ (h i ((l+r) / 2) (by omega) (by omega)) c
theorem bin_ok:∀ (f:Nat) (p:Array Nat) (k:Nat),k+f≤p.size→Up lt p k →
 let r:=ans lt (kas_bin f p k)
 r.size = p.size∧r.Perm p∧Up lt r (k+f)
 | 0,p,k,_,h=>⟨rfl,Array.Perm.refl _,h⟩
 | f+1,p,k,hz,h=>by
   unfold kas_bin
   rw [ans_bind]
   obtain ⟨a1,a2,a3⟩:=place_ok O p k h k 0 k (by omega) (by omega) (by omega) (fun i hi=>by omega) (fun i h1 h2=>by omega)
   generalize ans lt (kas_place p k k 0 k) = l at a1 a2 a3
   have bg:∀ t,(bubble p k (k - l)).getD t 0 = if t = l then p.getD k 0 else if l < t∧t≤k then p.getD (t - 1) 0 else p.getD t 0:=fun t=>by
    rw [getD_eq,getElem?_bubble (by omega) (k - l) (by omega) t]
    have e1:k - (k - l) = l:=by omega
    rw [e1]
    by_cases h1:t = l
    · rw [if_pos h1,if_pos h1,getD_eq]
    · rw [if_neg h1,if_neg h1]
      by_cases h2:l < t∧t≤k
      · rw [if_pos h2,if_pos h2,getD_eq]
      · rw [if_neg h2,if_neg h2,getD_eq]
   have hU:Up lt (bubble p k (k - l)) (k+1):=fun i j h1 h2=>by
    rw [bg i,bg j]
    by_cases i1:i = l
    · rw [if_pos i1]
      by_cases j1:j = l
      · rw [if_pos j1];exact O.refl _
      · rw [if_neg j1,if_pos ⟨by omega,by omega⟩]
        exact a3 _ (by omega) (by omega)
    · rw [if_neg i1]
      by_cases i2:l < i∧i≤k
      · rw [if_pos i2,if_neg (by omega),if_pos ⟨by omega,by omega⟩]
        exact h _ _ (by omega) (by omega)
      · rw [if_neg i2]
        by_cases j1:j = l
        · rw [if_pos j1]
          exact a2 i (by omega)
        · rw [if_neg j1]
          by_cases j2:l < j∧j≤k
          · rw [if_pos j2]
            exact h _ _ (by omega) (by omega)
          · rw [if_neg j2]
            exact h _ _ h1 (by omega)
   obtain ⟨b1,b2,b3⟩:=bin_ok f (bubble p k (k - l)) (k+1) (by rw [bubble_size];omega) hU
   exact ⟨by rw [b1,bubble_size],b2.trans (bubble_perm _ _ _),by rw [show k+(f+1) = k+1+f by omega];exact b3⟩
theorem sort_ok (n:Nat) (hn:1≤n) :
 let r:=ans lt (kas_sort n)
 r.size = n∧r.Perm (List.toArray (List.range n))∧Up lt r n:=by
 unfold kas_sort
 rw [ans_bind]
 have hs:(List.toArray (List.range n)).size = n:=by simp
 obtain ⟨a1,a2,a3,a4,a5⟩:=count_ok O (List.toArray (List.range n)) n hn (by omega)
 generalize ans lt (kas_count n (List.toArray (List.range n))) = r at a1 a2 a3 a4 a5
 by_cases h:r.1 < n
 · rw [if_pos h]
   have e:max r.1 1 = r.1:=by omega
   rw [e]
   obtain ⟨b1,b2,b3⟩:=bin_ok O (n - r.1) r.2 r.1 (by omega) a5
   have e2:r.1+(n - r.1) = n:=by omega
   rw [e2] at b3
   exact ⟨by omega,b2.trans a2,b3⟩
 · rw [if_neg h,ans_ret]
   have e:r.1 = n:=by omega
   exact ⟨by omega,a2,by rw [← e];exact a5⟩
end
end PP
end
section
namespace PP
open PySem
inductive D where
 | non | bl (b:Bool) | int (i:Int) | str (x:Str) | lst (ds:List D) | tup (ds:List D) | fn (k:Nat) (ds:List D) | dct (ks:List Str) (ds:List D)
 deriving Inhabited
mutual
def eqD:D→D→Bool
 | .non,.non=>true
 | .bl a,.bl b=>a == b
 | .bl a,.int b=>(if a then 1 else 0) == b
 | .int a,.bl b=>a == (if b then 1 else 0)
 | .int a,.int b=>a == b
 | .str a,.str b=>a == b
 | .lst a,.lst b=>eqDs a b
 | .tup a,.tup b=>eqDs a b
 | _,_=>false
def eqDs:List D→List D→Bool
 | [],[]=>true
 | x::xs,y::ys=>eqD x y && eqDs xs ys
 | _,_=>false
end
mutual
def ltD:D→D→Option Bool
 | .int a,.int b=>some (decide (a < b))
 | .str a,.str b=>some (decide (a.cps.toList < b.cps.toList))
 | .tup a,.tup b=>ltDs a b
 | _,_=>none
def ltDs:List D→List D→Option Bool
 | [],[]=>some false
 | [],_::_=>some true
 | _::_,[]=>some false
 | x::xs,y::ys=>if eqD x y = true then ltDs xs ys else ltD x y
end
mutual
def dep:D→Nat
 | .lst ds | .tup ds=>depL ds+1
 | .fn _ _=>100000
 | .dct _ _=>100000
 | _=>0
def depL:List D→Nat
 | []=>0
 | x::xs=>max (dep x) (depL xs)
end
mutual
def lf:D→Bool
 | .lst _=>false
 | .fn _ _=>false
 | .dct _ _=>false
 | .tup ds=>lfL ds
 | _=>true
def lfL:List D→Bool
 | []=>true
 | x::xs=>lf x && lfL xs
end
def flat:D→Bool
 | .non | .bl _ | .int _ | .str _=>true
 | _=>false
def tv:D→Option Bool
 | .non=>some false
 | .bl b=>some b
 | .int i=>some (i != 0)
 | .str x=>if x.length≤sizeLine then some ((x.length:Int) != 0) else none
 | .lst ds | .tup ds=>some (!ds.isEmpty)
 | .fn _ _=>none
 | .dct _ _=>none
inductive Op where
 | add | sub | mul | mod | fdiv | pow
 deriving DecidableEq
inductive Cop where
 | lt | gt | eq | ne | isin | notin
 deriving DecidableEq
inductive Blt where
 | len | min | max | toInt | toStr | toTup | toLst | dvm | any | sum | sorted | isTup
 deriving DecidableEq
def mulOk (i j:Int):Bool:=(decide (-(2 ^ 64) < i) && decide (i < 2 ^ 64)) || (decide (-(2 ^ 64) < j) && decide (j < 2 ^ 64)) || (decide (i.natAbs < 2 ^ 200) && decide (j.natAbs < 2 ^ 200))
def repS (x:Str) (n:Nat):Str:=⟨(List.replicate n x.cps.toList).flatten.toArray⟩
def addD:D→D→Option D
 | .int a,.int b=>some (.int (a+b))
 | .str a,.str b=>if a.length+b.length≤sizeLine then some (.str (a++b)) else none
 | .tup [],.tup b=>some (.tup b)
 | .tup (x::a),.tup b=>if (x::a).length+b.length≤sizeLine then some (.tup (x::a++b)) else none
 | .lst a,.lst b=>if a.length+b.length≤sizeLine then some (.lst (a++b)) else none
 | _,_=>none
def subD:D→D→Option D
 | .int a,.int b=>some (.int (a - b))
 | _,_=>none
def mulD:D→D→Option D
 | .int a,.int b=>if mulOk a b then some (.int (a * b)) else none
 | .str a,.int b=>if 0≤b∧b≤1000∧a.length≤1000 then some (.str (repS a b.toNat)) else none
 | _,_=>none
def modD:D→D→Option D
 | .int a,.int b=>if 0 < b then some (.int (a % b)) else none
 | _,_=>none
def fdivD:D→D→Option D
 | .int a,.int b=>if 0 < b∧b < 1000000000000000000000000000000000000000000000000000000000000 then some (.int (a / b)) else none
 | _,_=>none
def powD:D→D→Option D
 | .int a,.int b=>if 0≤b∧b≤1000000∧a.natAbs < 2 ^ 64 then some (.int (a ^ b.toNat)) else none
 | _,_=>none
def opD:Op→D→D→Option D
 | .add=>addD | .sub=>subD | .mul=>mulD | .mod=>modD | .fdiv=>fdivD | .pow=>powD
def kin:D→D→Bool
 | .bl _,.bl _ | .int _,.int _ | .str _,.str _ | .lst _,.lst _ | .tup _,.tup _=>true
 | _,_=>false
def depOk (a b:D):Bool:=kin a b && decide (min (dep a) (dep b)≤150) && decide (max (dep a) (dep b) < 100000)
def mixD:D→D→Bool
 | .int _,.str _=>true
 | .str _,.int _=>true
 | _,_=>false
def ordD (p:Int→Int→Bool):D→D→Option Bool
 | .int a,.int b=>some (p a b)
 | _,_=>none
def occS (y x:Str):Bool:=!(Builtin.Str.occurrences y x 0 y.length 1).isEmpty
def inD (a:D):D→Option Bool
 | .lst ds=>if dep a≤150∧depL ds < 99999 then some (ds.any fun y=>eqD y a) else none
 | .tup ds=>if dep a≤150∧depL ds < 99999 then some (ds.any fun y=>eqD y a) else none
 | .str y=>match a with
   | .str x=>some (occS y x)
   | _=>none
 | _=>none
def ltOk (a b:D):Option Bool:=if min (dep a) (dep b)≤150∧max (dep a) (dep b) < 100000 then ltD a b else none
def ltIx (ds:List D) (i j:Nat):Bool:=(ltOk (ds.getD i .non) (ds.getD j .non)).getD false
def sortL (ds:List D):List D:=if ds.length < 2 then ds else (ans (ltIx ds) (PySem.W.kas_sort ds.length)).toList.map fun i=>ds.getD i .non
def headK:D→Nat
 | .str _=>1
 | .int _=>2
 | .tup (.str _::_)=>3
 | .tup (.int _::_)=>4
 | _=>0
def sortable (ds:List D):Bool:=decide (ds.length < 64) && (ds.all fun x=>headK x != 0 && headK x == headK (ds.getD 0 .non)) && ds.all fun x=>ds.all fun y=>(ltOk x y).isSome
mutual
def hb:D→Bool
 | .str _ | .int _=>true
 | .tup ds=>hbL ds
 | _=>false
def hbL:List D→Bool
 | []=>true
 | d::ds=>hb d && hbL ds
end
def cmpD:Cop→D→D→Option Bool
 | .lt,x,y=>ltOk x y
 | .gt,x,y=>ordD (fun a b=>decide (b < a)) x y
 | .eq,a,b=>if depOk a b then some (eqD a b) else if mixD a b = true then some false else none
 | .ne,a,b=>if depOk a b then some (!eqD a b) else none
 | .isin,a,y=>inD a y
 | .notin,a,y=>(inD a y).map (!·)
def ixD:D→D→Option D
 | .lst ds,.int i=>L2.atI ds i
 | .tup ds,.int i=>L2.atI ds i
 | .str x,.int i=>if x.length≤sizeLine then (L2.atI x.cps.toList i).map fun c=>.str ⟨#[c]⟩ else none
 | _,_=>none
def cutD (ds:List D) (lo hi:Option Int):List D:=(ds.drop (HT.sIx ds.length 0 lo)).take (HT.sIx ds.length ds.length hi - HT.sIx ds.length 0 lo)
def slD:D→Option Int→Option Int→Option D
 | .lst ds,lo,hi=>some (.lst (cutD ds lo hi))
 | .tup ds,lo,hi=>if HT.sIx ds.length 0 lo = 0∧HT.sIx ds.length ds.length hi = ds.length then none else some (.tup (cutD ds lo hi))
 | _,_,_=>none
def intsD:List D→Option (List Int)
 | []=>some []
 | .int i::r=>(intsD r).map (i::·)
 | _=>none
def lenD:List D→Option D
 | [.str x]=>if x.length≤sizeLine then some (.int x.length) else none
 | [.lst ds]=>some (.int ds.length)
 | [.tup ds]=>some (.int ds.length)
 | _=>none
def minD:List D→Option D
 | [.int i,.int j]=>some (.int (if j < i then j else i))
 | _=>none
def topI:List Int→Int
 | []=>0
 | n::ns=>ns.foldl (fun a b=>if b > a then b else a) n
def maxD:List D→Option D
 | [.int i,.int j]=>some (.int (if j > i then j else i))
 | [.lst ds]=>(intsD ds).bind fun ns=>if ns = [] then none else some (.int (topI ns))
 | _=>none
def toIntD:List D→Option D
 | [.int i]=>some (.int i)
 | [.bl b]=>some (.int (if b then 1 else 0))
 | [.str x]=>if x.length≤640 then (PySem.intText? x).map .int else none
 | _=>none
def toStrD:List D→Option D
 | [.int i]=>if i.natAbs.log2 < 1920 then some (.str (toString i)) else none
 | _=>none
def toTupD:List D→Option D
 | [.lst ds]=>some (.tup ds)
 | [.tup ds]=>some (.tup ds)
 | _=>none
def toLstD:List D→Option D
 | [.lst ds]=>some (.lst ds)
 | [.tup ds]=>some (.lst ds)
 | _=>none
def dvmD:List D→Option D
 | [.int a,.int b]=>if 0 < b∧b < 1073741824 then some (.tup [.int (a / b),.int (a % b)]) else none
 | _=>none
def sumD:List D→Option D
 | [.lst ds]=>(intsD ds).map fun ns=>.int ns.sum
 | _=>none
def boolsD:List D→Option (List Bool)
 | []=>some []
 | .bl i::r=>(boolsD r).map (i::·)
 | _=>none
def anyD:List D→Option D
 | [.lst ds]=>(boolsD ds).map fun bs=>.bl (bs.any id)
 | _=>none
def sortedD:List D→Option D
 | [.lst ds]=>if sortable ds = true then some (.lst (sortL ds)) else none
 | _=>none
def isTupD:List D→Option D
 | [.tup _]=>some (.bl true)
 | [.fn _ _]=>none
 | [.dct _ _]=>none
 | [_]=>some (.bl false)
 | _=>none
def bltD:Blt→List D→Option D
 | .len=>lenD | .min=>minD | .max=>maxD | .toInt=>toIntD | .toStr=>toStrD | .toTup=>toTupD | .toLst=>toLstD | .dvm=>dvmD | .any=>anyD | .sum=>sumD | .sorted=>sortedD
 | .isTup=>isTupD
inductive Sl where
 | no | val (d:D) | own (ds:List D) | fnc (k:Nat) (cs:List D) | odc (ks:List Str) (ds:List D)
 deriving Inhabited
abbrev Loc:=List Sl
inductive Tg where
 | nm (i:Nat)
 | tp (is:List Nat)
 | pr (i:Nat) (is:List Nat)
mutual
inductive E where
 | var (i:Nat)
 | pk (i:Nat)
 | glob (g:Nat)
 | int (i:Int) | bl (b:Bool) | non | str (x:Str)
 | bin (op:Op) (a b:E)
 | cmp (op:Cop) (a b:E)
 | and (a b:E) | or (a b:E) | not (a:E) | neg (a:E)
 | ite (c a b:E)
 | tup (es:Es) | lst (es:Es)
 | ix (a b:E)
 | sl (a:E) (lo hi:Eo)
 | call (f:Nat) (es:Es)
 | blt (f:Blt) (es:Es)
 | pop (i:Nat)
 | bad
 | comp (k:Nat) (tg:Tg) (src:It) (ifs:Eo) (elt:E)
inductive Es where
 | nil | cons (e:E) (es:Es)
inductive Eo where
 | no | yes (e:E)
inductive It where
 | rng (e:E) | rng2 (a b:E) | sq (e:E)
end
def get (δ:Loc) (i:Nat):Option D:=match δ[i]? with
 | some (.val d)=>some d
 | some (.own ds)=>some (.lst ds)
 | _=>none
def getV (δ:Loc) (i:Nat):Option D:=match δ[i]? with
 | some (.odc ks ds)=>some (.dct ks ds)
 | _=>get δ i
def demote (δ:Loc) (i:Nat):Loc:=match δ[i]? with
 | some (.own ds)=>δ.set i (.val (.lst ds))
 | some (.odc ks ds)=>δ.set i (.val (.dct ks ds))
 | _=>δ
def setTg (δ:Loc):Tg→D→Option Loc
 | .nm i,d=>if i < δ.length then some (δ.set i (.val d)) else none
 | .tp is,.tup ds=>if is.length = ds.length∧is.all (· < δ.length) = true then some ((is.zip ds).foldl (fun δ p=>δ.set p.1 (.val p.2)) δ) else none
 | .tp is,.lst ds=>if is.length = ds.length∧is.all (· < δ.length) = true then some ((is.zip ds).foldl (fun δ p=>δ.set p.1 (.val p.2)) δ) else none
 | .pr i is,.tup [a,.tup ds]=>if i < δ.length∧is.length = ds.length∧is.all (· < δ.length) = true then some ((is.zip ds).foldl (fun δ p=>δ.set p.1 (.val p.2)) (δ.set i (.val a))) else none
 | _,_=>none
def items:D→Option (List D)
 | .lst ds=>some ds
 | .tup ds=>some ds
 | .str x=>if x.length≤sizeLine then some (x.cps.toList.map fun c=>.str ⟨#[c]⟩) else none
 | _=>none
def rngD (lo:Int) (n:Nat):List D:=(List.range n).map fun (i:Nat)=>D.int (lo+i)
def compL (f:D→Loc→Option (Option D × Loc)):List D→Loc→Option (List D × Loc)
 | [],δ=>some ([],δ)
 | x::xs,δ=>do
   let (o,δ1) ← f x δ
   let (ys,δ2) ← compL f xs δ1
   return (match o with | some y=>y::ys | none=>ys,δ2)
structure Cl where
 call:Nat→List D→Option D
 gl:List D
 hf:Nat→Bool
section
variable (cx:Cl)
mutual
def evE:E→Loc→Option (D × Loc)
 | .var i,δ=>do return (← getV δ i,demote δ i)
 | .pk i,δ=>do return (← get δ i,δ)
 | .glob g,δ=>do return (← cx.gl[g]?,δ)
 | .int i,δ=>some (.int i,δ)
 | .bl b,δ=>some (.bl b,δ)
 | .non,δ=>some (.non,δ)
 | .str x,δ=>some (.str x,δ)
 | .bin op a b,δ=>do
   let (x,δ1) ← evE a δ
   let (y,δ2) ← evE b δ1
   return (← opD op x y,δ2)
 | .cmp op a b,δ=>do
   let (x,δ1) ← evE a δ
   let (y,δ2) ← evE b δ1
   return (.bl (← cmpD op x y),δ2)
 | .and a b,δ=>do
   match ← evE a δ with
   | (.bl true,δ1)=>evE b δ1
   | (.bl false,δ1)=>some (.bl false,δ1)
   | _=>none
 | .or a b,δ=>do
   match ← evE a δ with
   | (.bl true,δ1)=>some (.bl true,δ1)
   | (.bl false,δ1)=>evE b δ1
   | _=>none
 | .not a,δ=>do
   match ← evE a δ with
   | (.bl b,δ1)=>some (.bl (!b),δ1)
   | _=>none
 | .neg a,δ=>do
   match ← evE a δ with
   | (.int i,δ1)=>some (.int (-i),δ1)
   | _=>none
 | .ite c a b,δ=>do
   let (k,δ1) ← evT c δ
   if k then evE a δ1 else evE b δ1
 | .tup es,δ=>do
   let (ds,δ1) ← evEs es δ
   if ds.length≤sizeLine then return (.tup ds,δ1) else none
 | .lst es,δ=>do
   let (ds,δ1) ← evEs es δ
   if ds.length≤sizeLine then return (.lst ds,δ1) else none
 | .ix a b,δ=>do
   let (x,δ1) ← evE a δ
   let (y,δ2) ← evE b δ1
   return (← ixD x y,δ2)
 | .sl a lo hi,δ=>do
   let (x,δ1) ← evE a δ
   let (l,δ2) ← evO lo δ1
   let (h,δ3) ← evO hi δ2
   return (← slD x l h,δ3)
 | .call f es,δ=>do
   let (ds,δ1) ← evEs es δ
   return (← cx.call f ds,δ1)
 | .blt f es,δ=>do
   let (ds,δ1) ← evEs es δ
   return (← bltD f ds,δ1)
 | .pop i,δ=>do
   match δ[i]? with
   | some (.own ds)=>match ds.getLast? with
     | some d=>some (d,δ.set i (.own ds.dropLast))
     | none=>none
   | _=>none
 | .bad,_=>none
 | .comp k tg src ifs elt,δ=>do
   let (ds,δ1) ← evI src δ
   let (ys,δ2) ← compL (fun x δ0=>do
    let δ2 ← setTg (δ0++List.replicate k .no) tg x
    let (b,δ3) ← evG ifs δ2
    if b then do
     let (y,δ4) ← evE elt δ3
     return (some y,δ4.take δ0.length)
    else return (none,δ3.take δ0.length)) ds δ1
   if ys.length≤sizeLine then return (.lst ys,δ2) else none
def evT:E→Loc→Option (Bool × Loc)
 | .and a b,δ=>do
   let (k,δ1) ← evT a δ
   if k then evT b δ1 else some (false,δ1)
 | .or a b,δ=>do
   let (k,δ1) ← evT a δ
   if k then some (true,δ1) else evT b δ1
 | .not a,δ=>do
   let (k,δ1) ← evT a δ
   return (!k,δ1)
 | .cmp op a b,δ=>do
   let (x,δ1) ← evE a δ
   let (y,δ2) ← evE b δ1
   return (← cmpD op x y,δ2)
 | .var i,δ=>do
   let d ← get δ i
   return (← tv d,δ)
 | .pk i,δ=>do
   let d ← get δ i
   return (← tv d,δ)
 | .call f es,δ=>do
   let (ds,δ1) ← evEs es δ
   let d ← cx.call f ds
   return (← tv d,δ1)
 | .blt f es,δ=>do
   let (ds,δ1) ← evEs es δ
   let d ← bltD f ds
   return (← tv d,δ1)
 | _,_=>none
def evEs:Es→Loc→Option (List D × Loc)
 | .nil,δ=>some ([],δ)
 | .cons e es,δ=>do
   let (d,δ1) ← evE e δ
   let (ds,δ2) ← evEs es δ1
   return (d::ds,δ2)
def evO:Eo→Loc→Option (Option Int × Loc)
 | .no,δ=>some (none,δ)
 | .yes e,δ=>do
   match ← evE e δ with
   | (.int i,δ1)=>some (some i,δ1)
   | _=>none
def evG:Eo→Loc→Option (Bool × Loc)
 | .no,δ=>some (true,δ)
 | .yes e,δ=>evT e δ
def evI:It→Loc→Option (List D × Loc)
 | .rng e,δ=>do
   match ← evE e δ with
   | (.int j,δ1)=>if -(2 ^ 62)≤j∧j < 2 ^ 62 then some (rngD 0 j.toNat,δ1) else none
   | _=>none
 | .rng2 a b,δ=>do
   match ← evE a δ with
   | (.int i,δ1)=>match ← evE b δ1 with
     | (.int j,δ2)=>if -(2 ^ 62)≤i∧i < 2 ^ 62∧-(2 ^ 62)≤j∧j < 2 ^ 62 then some (rngD i (j - i).toNat,δ2) else none
     | _=>none
   | _=>none
 | .sq e,δ=>do
   let (d,δ1) ← evE e δ
   return (← items d,δ1)
end
end
inductive Out where
 | nx (δ:Loc) | rt (d:D) (δ:Loc) | bk (δ:Loc) | ct (δ:Loc) | ro (d:D) (δ:Loc)
mutual
inductive S where
 | asg (tg:Tg) (e:E)
 | new (i:Nat) (e:E)
 | cmp (own:Bool) (i:Nat) (e:E)
 | ret (e:E) | retN
 | ifs (c:E) (a b:Ss)
 | for_ (tg:Tg) (src:It) (body:Ss)
 | forZ (tg:Tg) (es:Es) (body:Ss)
 | while_ (c:E) (body:Ss)
 | append (i:Nat) (e:E)
 | extend (i:Nat) (e:E)
 | setix (i:Nat) (j e:E)
 | opq (f:Cl→Loc→Option Out)
 | bad
 | pass | brk | cont
inductive Ss where
 | nil | cons (s:S) (ss:Ss)
end
def forL (f:D→Loc→Option Out):List D→Loc→Option Out
 | [],δ=>some (.nx δ)
 | x::xs,δ=>match f x δ with
   | some (.nx δ1)=>forL f xs δ1
   | some (.ct δ1)=>forL f xs δ1
   | some (.bk δ1)=>some (.nx δ1)
   | some (.rt d δ1)=>some (.rt d δ1)
   | some (.ro ds δ1)=>some (.ro ds δ1)
   | none=>none
def whileL (c:Loc→Option (Bool × Loc)) (f:Loc→Option Out):Nat→Loc→Option Out
 | 0,_=>none
 | n+1,δ=>match c δ with
   | some (true,δ1)=>match f δ1 with
     | some (.nx δ2)=>whileL c f n δ2
     | some (.ct δ2)=>whileL c f n δ2
     | some (.bk δ2)=>some (.nx δ2)
     | some (.rt d δ2)=>some (.rt d δ2)
     | some (.ro ds δ2)=>some (.ro ds δ2)
     | none=>none
   | some (false,δ1)=>some (.nx δ1)
   | none=>none
def seqD:D→Option (List D)
 | .lst ds=>some ds
 | .tup ds=>some ds
 | _=>none
def zipD (xs ys:List D):List D:=(xs.zip ys).map fun p=>.tup [p.1,p.2]
def own0:Nat:=1000000
section
variable (cx:Cl)
mutual
def evS:S→Loc→Option Out
 | .asg tg e,δ=>do
   let (d,δ1) ← evE cx e δ
   return .nx (← setTg δ1 tg d)
 | .new i e,δ=>do
   match ← evE cx e δ with
   | (.lst ds,δ1)=>if i < δ1.length then some (.nx (δ1.set i (.own ds))) else none
   | _=>none
 | .cmp own i e,δ=>do
   match ← evE cx e δ with
   | (.lst ds,δ1)=>if i < δ1.length then some (.nx (δ1.set i (if own then .own ds else .val (.lst ds)))) else none
   | _=>none
 | .ret e,δ=>do
   let (d,δ1) ← evE cx e δ
   return .rt d δ1
 | .retN,δ=>some (.rt .non δ)
 | .ifs c a b,δ=>do
   let (k,δ1) ← evT cx c δ
   if k then evSs a δ1 else evSs b δ1
 | .for_ tg src body,δ=>do
   let (ds,δ1) ← evI cx src δ
   forL (fun x δ0=>match setTg δ0 tg x with
    | some δ2=>evSs body δ2
    | none=>none) ds δ1
 | .forZ tg es body,δ=>do
   let (ds,δ1) ← evEs cx es δ
   match ds with
   | [x,y]=>(match seqD x,seqD y with
     | some xs,some ys=>(forL (fun p δ0=>(match setTg δ0 tg p with
       | some δ2=>evSs body δ2
       | none=>none)) (zipD xs ys) δ1)
     | _,_=>none)
   | _=>none
 | .while_ c body,δ=>whileL (fun δ0=>evT cx c δ0) (fun δ0=>evSs body δ0) 1000 δ
 | .append i e,δ=>match δ[i]? with
   | some (.own _)=>do
     let (d,δ1) ← evE cx e δ
     match δ1[i]? with
     | some (.own ds)=>if ds.length < sizeLine then some (.nx (δ1.set i (.own (ds++[d])))) else none
     | _=>none
   | _=>none
 | .extend i e,δ=>match δ[i]? with
   | some (.own _)=>do
     match ← evE cx e δ with
     | (.lst ys,δ1)=>match δ1[i]? with
       | some (.own ds)=>if ds.length+ys.length≤sizeLine then some (.nx (δ1.set i (.own (ds++ys)))) else none
       | _=>none
     | _=>none
   | _=>none
 | .setix i j e,δ=>do
   let (d,δ1) ← evE cx e δ
   match δ1[i]? with
   | some (.own _)=>do
     match ← evE cx j δ1 with
     | (.int k,δ2)=>match δ2[i]? with
       | some (.own ds)=>match L2.ixN ds.length k with
         | some m=>some (.nx (δ2.set i (.own (ds.set m d))))
         | none=>none
       | _=>none
     | _=>none
   | _=>none
 | .opq f,δ=>f cx δ
 | .bad,_=>none
 | .pass,δ=>some (.nx δ)
 | .brk,δ=>some (.bk δ)
 | .cont,δ=>some (.ct δ)
def evSs:Ss→Loc→Option Out
 | .nil,δ=>some (.nx δ)
 | .cons s ss,δ=>match evS s δ with
   | some (.nx δ1)=>evSs ss δ1
   | o=>o
end
end
structure Fd where
 name:Str
 ps:List Str
 loc:List Str
 body:Ss
 hf:Bool:=false
def outD:Option Out→Option D
 | some (.rt d _)=>some d
 | some (.ro d _)=>some d
 | some (.nx _)=>some .non
 | _=>none
def ownD:Option Out→Option D
 | some (.ro d _)=>some d
 | _=>none
def init (n:Nat) (ds:List D):Loc:=ds.map .val++List.replicate (n - ds.length) .no
def hfs (G:List Fd) (f:Nat):Bool:=match G[f]? with
 | some fd=>fd.hf
 | none=>false
def initF (n:Nat) (ds:List D) (k:Nat) (cs:List D):Loc:=ds.map .val++Sl.fnc k cs::List.replicate (n - (ds.length+1)) .no
def entry (hf:Bool) (n:Nat) (ds:List D):Option Loc:=match hf with
 | false=>some (init n ds)
 | true=>match ds.getLast? with
   | some (.fn k cs)=>some (initF n ds.dropLast k cs)
   | _=>none
def run (G:List Fd) (gl:List D):Nat→Nat→List D→Option D
 | 0,_,_=>none
 | n+1,f,ds=>match G[f]? with
   | some fd=>if ds.length = fd.ps.length then (match entry fd.hf (fd.ps++fd.loc).length ds with
     | some δ=>outD (evSs ⟨run G gl n,gl,hfs G⟩ fd.body δ)
     | none=>none) else none
   | none=>match G[f - own0]? with
     | some fd=>if own0≤f∧ds.length = fd.ps.length then (match entry fd.hf (fd.ps++fd.loc).length ds with
       | some δ=>ownD (evSs ⟨run G gl n,gl,hfs G⟩ fd.body δ)
       | none=>none) else none
     | none=>none
def isPk:E→Bool
 | .pk _=>true
 | _=>false
mutual
def np:E→Bool
 | .bin _ a b | .cmp _ a b | .and a b | .or a b | .ix a b=>np a && np b
 | .not a=>np a
 | .neg a=>np a
 | .ite c a b=>np c && np a && np b
 | .tup es | .lst es | .call _ es | .blt _ es=>npS es
 | .sl a lo hi=>np a && npO lo && npO hi
 | .pop _=>false
 | .comp _ _ src ifs elt=>npI src && npO ifs && np elt
 | _=>true
def npS:Es→Bool
 | .nil=>true
 | .cons e es=>np e && npS es
def npO:Eo→Bool
 | .no=>true
 | .yes e=>np e
def npI:It→Bool
 | .rng e=>np e
 | .rng2 a b=>np a && np b
 | .sq e=>np e
end
end PP
example:PP.evE ⟨fun _ _=>none,[],fun _=>false⟩ (.bin .add (.int 1) (.int 2)) [] = some (.int 3,[]):=rfl
end
section
namespace PP
open PySem L2
def KLs (K:PySem.W.Frag) (a:Addr) (xs:List V):Prop:=∃ (its:Array Value) (n:Nat),K.lookup a = some ⟨.type "list",none,.seq its n,#[]⟩∧its.size≤sizeLine∧Vals xs its.toList
def Ls (K:PySem.W.Frag) (H:Hp) (F:Addr→Prop) (a:Addr) (xs:List V):Prop:=(Rd H a (.lst xs)∧¬ F a)∨KLs K a xs
def LsB (K:PySem.W.Frag) (H:Hp) (a:Addr) (xs:List V):Prop:=Rd H a (.lst xs)∨KLs K a xs
theorem Ls.b {K:PySem.W.Frag} {H:Hp} {F:Addr→Prop} {a:Addr} {xs:List V} (h:Ls K H F a xs):LsB K H a xs:=h.imp (·.1) id
theorem LsB.sq {K:PySem.W.Frag} {H:Hp} {a:Addr} {xs:List V} (h:LsB K H a xs):SqL K H a xs:=by
 rcases h with h | ⟨its,n,h1,h2,h3⟩
 · exact .inl h
 · exact .inr ⟨_,its,n,h1,rfl,rfl,rfl,h2,h3⟩
theorem Ls.sq {K:PySem.W.Frag} {H:Hp} {F:Addr→Prop} {a:Addr} {xs:List V} (h:Ls K H F a xs):SqL K H a xs:=h.b.sq
theorem LsB.obj {X:Cx} {pins:List (Addr × Obj)} {σ:St} {H:Hp} {s:Shared} {a:Addr} {xs:List V} (I:Inv X pins σ H s) (h:LsB X.K H a xs) :
 ∃ (its:List Value) (n:Nat),Vals xs its∧s.heap.get? a = some { cls:=.type "list",data:=.seq its.toArray n }∧xs.length≤sizeLine:=by
 rcases h with h | ⟨its,n,h1,h2,h3⟩
 · obtain ⟨z,its,n,r,e⟩:=h.ok I.hok
   exact ⟨its,n,r,e,z⟩
 · refine ⟨its.toList,n,h3,?_,?_⟩
   · have:=I.kIn a _ h1
     simpa using this
   · have:=h3.length
     rw [this]
     simpa using h2
def zk:List Str→List V→List (Key × V)
 | k::ks,v::vs=>(.inr k,v)::zk ks vs
 | _,_=>[]
mutual
def Rel (K:PySem.W.Frag) (H:Hp) (F:Addr→Prop):D→V→Prop
 | .non,v=>v = .non
 | .bl b,v=>v = .bl b
 | .int i,v=>v = .int i
 | .str x,v=>v = .str x
 | .lst ds,v=>∃ a xs,v = .ref a∧Ls K H F a xs∧RelL K H F ds xs
 | .tup ds,v=>∃ a xs,v = .ref a∧SqT K H a xs∧RelL K H F ds xs
 | .fn _ _,_=>False
 | .dct ks ds,v=>∃ a vs,v = .ref a∧Rd H a (.dK (zk ks vs))∧¬ F a∧ks.Nodup∧ks.length = ds.length∧RelL K H F ds vs
def RelL (K:PySem.W.Frag) (H:Hp) (F:Addr→Prop):List D→List V→Prop
 | [],xs=>xs = []
 | d::ds,xs=>∃ y ys,xs = y::ys∧Rel K H F d y∧RelL K H F ds ys
end
def NT:HO→Prop
 | .tbl _=>False
 | _=>True
structure Sim (H H':Hp):Prop where
 nt:∀ b o,NT o→H b = some o→H' b = some o
 tb:∀ b ps,H b = some (.tbl ps)→∃ qs,H' b = some (.tbl qs)
theorem Sim.of {H H':Hp} (h:Same H H'):Sim H H':=⟨fun b o _ e=>h b o e,fun b ps e=>⟨ps,h b _ e⟩⟩
theorem Sim.refl (H:Hp):Sim H H:=⟨fun b o _ e=>e,fun b ps e=>⟨ps,e⟩⟩
theorem Sim.trans {H H1 H2:Hp} (a:Sim H H1) (b:Sim H1 H2):Sim H H2:=⟨fun x o n e=>b.nt x o n (a.nt x o n e),fun x ps e=>by
 obtain ⟨qs,e⟩:=a.tb x ps e
 exact b.tb x qs e⟩
def Fz (H:Hp) (a:Addr) (o:Obj):Prop:=H a = some (.frz o (.ext fun h=>h.get? a = some o))
structure Lam where
 qual:Str
 params:Arguments
 body:Expr
 scope:Scope
 ps:List Str
 caps:List Str
class Tbs where
 ts:List (Addr × Str)
 lams:List (Nat × Lam)
variable [Tbs]
def Mo:HO→Prop
 | .lst _=>True
 | .ext _=>True
 | .dK _=>True
 | _=>False
def flV:D→V
 | .bl b=>.bl b
 | .int i=>.int i
 | .str x=>.str x
 | _=>.non
def CellsV (H:Hp):List Addr→List D→Prop
 | [],ds=>ds = []
 | c::r,ds=>∃ d ds' o u,ds = d::ds'∧flat d = true∧Fz H c o∧o.data = .cell (some u)∧RelV (flV d) u∧CellsV H r ds'
def FnV (H:Hp) (k:Nat) (cs:List D) (a:Addr):Prop:=∃ (L:Lam) (pm ctv:Value) (c':Addr) (oc:Obj) (vs:Array Value) (tk:Tok) (cells:List Addr),
 Tbs.lams.lookup k = some L∧Fz H a (PySem.W.kla_obj "<lambda>" L.qual L.params L.body L.scope (L.caps.zip cells) pm c' ctv)∧Fz H c' oc∧oc.data = .fields vs∧vs[1]? = some (.str L.qual tk)∧cells.Nodup∧cells.length = L.caps.length∧CellsV H cells cs
theorem CellsV.keep {H H':Hp} (k:∀ a o,Fz H a o→Fz H' a o):∀ {cells:List Addr} {cs:List D},CellsV H cells cs→CellsV H' cells cs
 | [],_,h=>h
 | c::r,cs,h=>by
   obtain ⟨d,ds',o,u,e,h1,h2,h3,h4,h5⟩:=h
   exact ⟨d,ds',o,u,e,h1,k _ _ h2,h3,h4,CellsV.keep k h5⟩
theorem FnV.keep {H H':Hp} (k:∀ a o,Fz H a o→Fz H' a o) {n:Nat} {cs:List D} {a:Addr} (h:FnV H n cs a):FnV H' n cs a:=by
 obtain ⟨L,pm,ctv,c',oc,vs,tk,cells,h1,h2,h3,h4,h5,h6,h7,h8⟩:=h
 exact ⟨L,pm,ctv,c',oc,vs,tk,cells,h1,k _ _ h2,k _ _ h3,h4,h5,h6,h7,h8.keep k⟩
def Tabs (H:Hp):Prop:=∀ t∈Tbs.ts,∃ ps,H t.1 = some (.tbl ps)∧TriplesOk ps.toList∧∀ pos cv,codeAmong pos ps.toList = some cv→∃ c o vs tk,cv = .ref c∧Fz H c o∧o.data = .fields vs∧vs[1]? = some (.str t.2 tk)
theorem Tabs.keep {H H':Hp} (h:Tabs H) (k:∀ b o,¬ Mo o→H b = some o→H' b = some o):Tabs H':=fun t ht=>by
 obtain ⟨ps,h1,h2,h3⟩:=h t ht
 refine ⟨ps,k _ _ (fun z=>z) h1,h2,fun pos cv e=>?_⟩
 obtain ⟨c,o,vs,tk,e1,e2,e3⟩:=h3 pos cv e
 exact ⟨c,o,vs,tk,e1,k _ _ (fun z=>z) e2,e3⟩
def FD (F:Addr→Prop) (H:Hp):Prop:=∀ b,F b→∃ o,H b = some o∧(Mo o∨(∃ ps,o = .tbl ps)∧∃ t∈Tbs.ts,t.1 = b)
theorem FD.not {F:Addr→Prop} {H:Hp} (fd:FD F H) {a:Addr} {o:HO} (e:H a = some o) (n:¬ Mo o) (t:NT o):¬ F a:=fun z=>by
 obtain ⟨u,e2,h⟩:=fd a z
 rw [e] at e2
 cases e2
 rcases h with h | ⟨⟨ps,rfl⟩,_⟩
 · exact n h
 · exact t
theorem FD.none {F:Addr→Prop} {H:Hp} (fd:FD F H) {a:Addr} (e:H a = Option.none):¬ F a:=fun z=>by
 obtain ⟨u,e2,_⟩:=fd a z
 rw [e] at e2
 cases e2
def TF (F:Addr→Prop):Prop:=∀ t∈Tbs.ts,F t.1
structure Gh where
 h:Hp
 R:Addr→Prop
def Gh.free (G:Gh) (a:Addr):Prop:=G.h a = none∧¬ G.R a
def g0:Gh:=⟨fun _=>none,fun _=>False⟩
structure Step (G:Gh) (F:Addr→Prop) (H:Hp) (F':Addr→Prop) (H':Hp):Prop where
 keep:∀ b o,NT o→H b = some o→¬ F b→H' b = some o
 grow:∀ b,F' b→F b∨H b = none
 res:∀ b o,G.R b→F b→H b = some o→F' b∧H' b = some o
 tb:∀ b ps,H b = some (.tbl ps)→∃ qs,H' b = some (.tbl qs)
theorem Step.refl {G:Gh} {F:Addr→Prop} {H:Hp}:Step G F H F H:=⟨fun _ _ _ h _=>h,fun _ h=>.inl h,fun _ _ _ h e=>⟨h,e⟩,fun _ ps e=>⟨ps,e⟩⟩
theorem Step.trans {G:Gh} {H H1 H2:Hp} {F F1 F2:Addr→Prop} (a:Step G F H F1 H1) (b:Step G F1 H1 F2 H2):Step G F H F2 H2 where
 keep:=fun x o t h n=>b.keep x o t (a.keep x o t h n) fun z=>by
  rcases a.grow x z with q | q
  · exact n q
  · rw [h] at q;cases q
 grow:=fun x h=>by
  rcases b.grow x h with q | q
  · exact a.grow x q
  · by_cases f:F x
    · exact .inl f
    · right
      cases e:H x with
      | none=>rfl
      | some o =>
        by_cases t:NT o
        · rw [a.keep x o t e f] at q;cases q
        · cases o<;>first | (exact absurd trivial t) | skip
          obtain ⟨qs,z⟩:=a.tb x _ e
          rw [z] at q;cases q
 res:=fun x o r h e=>by
  obtain ⟨h1,e1⟩:=a.res x o r h e
  exact b.res x o r h1 e1
 tb:=fun x ps e=>by
  obtain ⟨qs,e⟩:=a.tb x ps e
  exact b.tb x qs e
theorem Step.of_same {G:Gh} {H H':Hp} {F:Addr→Prop} (h:Same H H'):Step G F H F H':=⟨fun b o _ e _=>h b o e,fun _ h=>.inl h,fun b o _ f e=>⟨f,h b o e⟩,fun b ps e=>⟨ps,h b _ e⟩⟩
section
variable {K:PySem.W.Frag} {G:Gh} {H H':Hp} {F F':Addr→Prop}
theorem rd_keep {a:Addr} {u:HO} (t:NT u) (k:∀ b o,NT o→H b = some o→¬ F b→H' b = some o) (n:¬ F a) (h:Rd H a u):Rd H' a u:=by
 rcases h with h | ⟨o,h⟩
 · exact .inl (k a _ t h n)
 · exact .inr ⟨o,k a _ trivial h n⟩
theorem sqt_keep {a:Addr} {xs:List V} (fd:FD F H) (k:∀ b o,NT o→H b = some o→¬ F b→H' b = some o) (h:SqT K H a xs):SqT K H' a xs:=by
 rcases h with h | h
 · refine .inl (rd_keep trivial k (fun z=>?_) h)
   rcases h with h | ⟨o,h⟩
   · exact fd.not h (fun z=>z) trivial z
   · exact fd.not h (fun z=>z) trivial z
 · exact .inr h
theorem Ls.step {a:Addr} {xs:List V} (s:Step G F H F' H') (h:Ls K H F a xs):Ls K H' F' a xs:=by
 rcases h with ⟨h1,h2⟩ | h
 · refine .inl ⟨rd_keep trivial s.keep h2 h1,fun z=>?_⟩
   rcases s.grow a z with q | q
   · exact h2 q
   · rcases h1 with h | ⟨o,h⟩
     · rw [h] at q;cases q
     · rw [h] at q;cases q
 · exact .inr h
theorem fz_keep (fd:FD F H) (k:∀ b o,NT o→H b = some o→¬ F b→H' b = some o):∀ a o,Fz H a o→Fz H' a o:=fun a o h=>by
 exact k a _ trivial h (fd.not h (fun z=>z) trivial)
mutual
theorem Rel.step (fd:FD F H) (s:Step G F H F' H'):∀ (d:D) (v:V),Rel K H F d v→Rel K H' F' d v
 | .non,v,h=>by unfold Rel at h ⊢;exact h
 | .bl b,v,h=>by unfold Rel at h ⊢;exact h
 | .int i,v,h=>by unfold Rel at h ⊢;exact h
 | .str x,v,h=>by unfold Rel at h ⊢;exact h
 | .lst ds,v,h=>by
   unfold Rel at h ⊢
   obtain ⟨a,xs,e,h1,h3⟩:=h
   exact ⟨a,xs,e,h1.step s,RelL.step fd s ds xs h3⟩
 | .tup ds,v,h=>by
   unfold Rel at h ⊢
   obtain ⟨a,xs,e,h1,h3⟩:=h
   exact ⟨a,xs,e,sqt_keep fd s.keep h1,RelL.step fd s ds xs h3⟩
 | .fn _ _,v,h=>by unfold Rel at h;exact h.elim
 | .dct ks ds,v,h=>by
   unfold Rel at h ⊢
   obtain ⟨a,vs,e,h1,h2,h3,h4,h5⟩:=h
   refine ⟨a,vs,e,h1.elim (fun h1=>.inl (s.keep a _ trivial h1 h2)) fun ⟨o,h1⟩=>.inr ⟨o,s.keep a _ trivial h1 h2⟩,fun z=>?_,h3,h4,RelL.step fd s ds vs h5⟩
   rcases s.grow a z with q | q
   · exact h2 q
   · rcases h1 with h1 | ⟨o,h1⟩<;>(rw [h1] at q;cases q)
theorem RelL.step (fd:FD F H) (s:Step G F H F' H'):∀ (ds:List D) (xs:List V),RelL K H F ds xs→RelL K H' F' ds xs
 | [],xs,h=>by unfold RelL at h ⊢;exact h
 | d::ds,xs,h=>by
   unfold RelL at h ⊢
   obtain ⟨y,ys,e,h1,h2⟩:=h
   exact ⟨y,ys,e,Rel.step fd s d y h1,RelL.step fd s ds ys h2⟩
end
theorem Rel.less (fd:FD F H) (hs:∀ b,F' b→F b) {d:D} {v:V} (h:Rel K H F d v):Rel K H F' d v :=
 Rel.step (G:=g0) fd ⟨fun _ _ _ h _=>h,fun b z=>.inl (hs b z),fun _ _ r _ _=>r.elim,fun _ ps e=>⟨ps,e⟩⟩ d v h
theorem RelL.less (fd:FD F H) (hs:∀ b,F' b→F b) {ds:List D} {xs:List V} (h:RelL K H F ds xs):RelL K H F' ds xs :=
 RelL.step (G:=g0) fd ⟨fun _ _ _ h _=>h,fun b z=>.inl (hs b z),fun _ _ r _ _=>r.elim,fun _ ps e=>⟨ps,e⟩⟩ ds xs h
mutual
theorem Rel.free (fd:FD F' H):∀ (d:D) (v:V),lf d = true→Rel K H F d v→Rel K H F' d v
 | .non,v,_,h=>by unfold Rel at h ⊢;exact h
 | .bl b,v,_,h=>by unfold Rel at h ⊢;exact h
 | .int i,v,_,h=>by unfold Rel at h ⊢;exact h
 | .str x,v,_,h=>by unfold Rel at h ⊢;exact h
 | .lst ds,v,l,h=>by unfold lf at l;cases l
 | .tup ds,v,l,h=>by
   unfold lf at l
   unfold Rel at h ⊢
   obtain ⟨a,xs,e,h1,h3⟩:=h
   exact ⟨a,xs,e,h1,RelL.free fd ds xs l h3⟩
 | .fn _ _,v,l,h=>by unfold lf at l;cases l
 | .dct _ _,v,l,h=>by unfold lf at l;cases l
theorem RelL.free (fd:FD F' H):∀ (ds:List D) (xs:List V),lfL ds = true→RelL K H F ds xs→RelL K H F' ds xs
 | [],xs,_,h=>by unfold RelL at h ⊢;exact h
 | d::ds,xs,l,h=>by
   unfold lfL at l
   rw [Bool.and_eq_true] at l
   unfold RelL at h ⊢
   obtain ⟨y,ys,e,h1,h2⟩:=h
   exact ⟨y,ys,e,Rel.free fd d y l.1 h1,RelL.free fd ds ys l.2 h2⟩
end
theorem RelL.length:∀ {ds:List D} {xs:List V},RelL K H F ds xs→xs.length = ds.length
 | [],xs,h=>by unfold RelL at h;subst h;rfl
 | d::ds,xs,h=>by
   unfold RelL at h
   obtain ⟨y,ys,e,_,h2⟩:=h
   subst e
   rw [List.length_cons,List.length_cons,RelL.length h2]
theorem RelL.get:∀ {ds:List D} {xs:List V} {i:Nat} {d:D},RelL K H F ds xs→ds[i]? = some d→∃ v,xs[i]? = some v∧Rel K H F d v
 | [],_,_,_,_,e=>by simp at e
 | d::ds,xs,i,d',h,e=>by
   unfold RelL at h
   obtain ⟨y,ys,q,h1,h2⟩:=h
   subst q
   cases i with
   | zero=>simp at e;subst e;exact ⟨y,rfl,h1⟩
   | succ i =>
     obtain ⟨v,h3,h4⟩:=RelL.get (i:=i) h2 (by simpa using e)
     exact ⟨v,by simpa using h3,h4⟩
theorem RelL.append:∀ {ds es:List D} {xs ys:List V},RelL K H F ds xs→RelL K H F es ys→RelL K H F (ds++es) (xs++ys)
 | [],es,xs,ys,h,h'=>by unfold RelL at h;subst h;exact h'
 | d::ds,es,xs,ys,h,h'=>by
   unfold RelL at h
   obtain ⟨y,zs,q,h1,h2⟩:=h
   subst q
   show RelL K H F (d::(ds++es)) (y::(zs++ys))
   unfold RelL
   exact ⟨y,zs++ys,rfl,h1,RelL.append h2 h'⟩
theorem RelL.one {d:D} {v:V} (h:Rel K H F d v):RelL K H F [d] [v]:=by
 unfold RelL
 exact ⟨v,[],rfl,h,by unfold RelL;rfl⟩
theorem RelL.nil:RelL K H F [] []:=by unfold RelL;rfl
theorem RelL.cons {d:D} {v:V} {ds:List D} {xs:List V} (h:Rel K H F d v) (t:RelL K H F ds xs):RelL K H F (d::ds) (v::xs):=by
 unfold RelL
 exact ⟨v,xs,rfl,h,t⟩
theorem RelL.take:∀ {ds:List D} {xs:List V} (n:Nat),RelL K H F ds xs→RelL K H F (ds.take n) (xs.take n)
 | [],xs,n,h=>by unfold RelL at h;subst h;simp;exact RelL.nil
 | d::ds,xs,0,h=>by simp;exact RelL.nil
 | d::ds,xs,n+1,h=>by
   unfold RelL at h
   obtain ⟨y,ys,q,h1,h2⟩:=h
   subst q
   rw [List.take_succ_cons,List.take_succ_cons]
   exact RelL.cons h1 (RelL.take n h2)
theorem RelL.drop:∀ {ds:List D} {xs:List V} (n:Nat),RelL K H F ds xs→RelL K H F (ds.drop n) (xs.drop n)
 | [],xs,n,h=>by unfold RelL at h;subst h;simp;exact RelL.nil
 | d::ds,xs,0,h=>h
 | d::ds,xs,n+1,h=>by
   unfold RelL at h
   obtain ⟨y,ys,q,h1,h2⟩:=h
   subst q
   rw [List.drop_succ_cons,List.drop_succ_cons]
   exact RelL.drop n h2
theorem RelL.set {d:D} {v:V} (r:Rel K H F d v):∀ {ds:List D} {xs:List V} (n:Nat),RelL K H F ds xs→RelL K H F (ds.set n d) (xs.set n v)
 | [],xs,n,h=>by unfold RelL at h;subst h;simp;exact RelL.nil
 | e::ds,xs,0,h=>by
   unfold RelL at h
   obtain ⟨y,ys,q,h1,h2⟩:=h
   subst q
   exact RelL.cons r h2
 | e::ds,xs,n+1,h=>by
   unfold RelL at h
   obtain ⟨y,ys,q,h1,h2⟩:=h
   subst q
   exact RelL.cons h1 (RelL.set r n h2)
theorem RelL.dropLast {ds:List D} {xs:List V} (h:RelL K H F ds xs):RelL K H F ds.dropLast xs.dropLast:=by
 rw [List.dropLast_eq_take,List.dropLast_eq_take,h.length]
 exact h.take _
theorem RelL.cut {ds:List D} {xs:List V} (lo hi:Option Int) (h:RelL K H F ds xs):RelL K H F (cutD ds lo hi) (cutV xs lo hi):=by
 unfold cutD cutV
 rw [h.length]
 exact (h.drop _).take _
end
def RelB (K:PySem.W.Frag) (H:Hp) (F:Addr→Prop) (d:D) (v:V):Prop:=Rel K H F d v∨∃ a xs ds,d = .lst ds∧v = .ref a∧H a = some (.lst xs)∧RelL K H F ds xs
def RelM (m:Bool) (K:PySem.W.Frag) (H:Hp) (F:Addr→Prop) (d:D) (v:V):Prop:=if m = true then RelB K H F d v else Rel K H F d v
theorem RelM.b {m:Bool} {K:PySem.W.Frag} {H:Hp} {F:Addr→Prop} {d:D} {v:V} (h:RelM m K H F d v):RelB K H F d v:=by
 unfold RelM at h
 split at h
 · exact h
 · exact .inl h
theorem RelB.same {K:PySem.W.Frag} {G:Gh} {H H':Hp} {F F':Addr→Prop} {d:D} {v:V} (fd:FD F H) (s:Step G F H F' H') (k:Sim H H') (h:RelB K H F d v):RelB K H' F' d v:=by
 rcases h with h | ⟨a,xs,ds,e1,e2,h1,h2⟩
 · exact .inl (Rel.step fd s d v h)
 · exact .inr ⟨a,xs,ds,e1,e2,k.nt _ _ trivial h1,RelL.step fd s ds xs h2⟩
theorem RelM.step {m:Bool} {K:PySem.W.Frag} {G:Gh} {H H':Hp} {F F':Addr→Prop} {d:D} {v:V} (fd:FD F H) (s:Step G F H F' H') (k:m = true→Sim H H') (h:RelM m K H F d v):RelM m K H' F' d v:=by
 cases m with
 | true=>exact RelB.same fd s (k rfl) h
 | false=>exact Rel.step fd s d v h
def SlOk (K:PySem.W.Frag) (G:Gh) (F:Addr→Prop) (H:Hp) (o:Option (Option V)):Sl→Prop
 | .no=>True
 | .val d=>∃ v,o = some (some v)∧Rel K H F d v
 | .own ds=>∃ a xs,o = some (some (.ref a))∧F a∧G.free a∧H a = some (.lst xs)∧RelL K H F ds xs
 | .fnc k cs=>∃ a,o = some (some (.ref a))∧FnV H k cs a
 | .odc ks ds=>∃ a vs,o = some (some (.ref a))∧F a∧G.free a∧H a = some (.dK (zk ks vs))∧ks.Nodup∧ks.length = ds.length∧RelL K H F ds vs
def ow:Sl→Bool
 | .own _=>true
 | .odc _ _=>true
 | _=>false
structure Ok (K:PySem.W.Frag) (G:Gh) (F:Addr→Prop) (σ:St) (H:Hp) (δ:Loc):Prop where
 same:Sim G.h H
 fd:FD F H
 rf:∀ b,G.R b→F b
 rl:∀ b,G.R b→∃ o,H b = some o∧Mo o
 tf:TF F
 tabs:Tabs H
 len:δ.length = σ.length
 sl:∀ (i:Nat) (s:Sl),δ[i]? = some s→SlOk K G F H σ[i]? s
 apart:∀ (i j:Nat) (s t:Sl) (a:Addr),δ[i]? = some s→δ[j]? = some t→ow s = true→ow t = true→σ[i]? = some (some (.ref a))→σ[j]? = some (some (.ref a))→i = j
section
variable {K:PySem.W.Frag} {G:Gh} {H H':Hp} {F F':Addr→Prop} {σ:St} {δ:Loc}
theorem SlOk.same {o:Option (Option V)} (fd:FD F H) (k:Same H H'):∀ {s:Sl},SlOk K G F H o s→SlOk K G F H' o s
 | .no,_=>trivial
 | .val d,h=>by
   obtain ⟨v,e,h⟩:=h
   exact ⟨v,e,Rel.step (G:=G) fd (Step.of_same k) d v h⟩
 | .own ds,h=>by
   obtain ⟨a,xs,e,h1,h2,h3,h4⟩:=h
   exact ⟨a,xs,e,h1,h2,k _ _ h3,RelL.step (G:=G) fd (Step.of_same k) ds xs h4⟩
 | .fnc n cs,h=>by
   obtain ⟨a,e,h⟩:=h
   exact ⟨a,e,h.keep fun a o z=>k _ _ z⟩
 | .odc ks ds,h=>by
   obtain ⟨a,xs,e,h1,h2,h3,h4,h5,h6⟩:=h
   exact ⟨a,xs,e,h1,h2,k _ _ h3,h4,h5,RelL.step (G:=G) fd (Step.of_same k) ds xs h6⟩
theorem FD.same (fd:FD F H) (k:Same H H'):FD F H':=fun b h=>by
 obtain ⟨o,e,q⟩:=fd b h
 exact ⟨o,k _ _ e,q⟩
theorem rl_same {P:Addr→Prop} (h:∀ b,P b→∃ o,H b = some o∧Mo o) (k:Same H H'):∀ b,P b→∃ o,H' b = some o∧Mo o:=fun b z=>by
 obtain ⟨o,e,q⟩:=h b z
 exact ⟨o,k _ _ e,q⟩
theorem Ok.same' (h:Ok K G F σ H δ) (k:Same H H'):Ok K G F σ H' δ :=
 ⟨h.same.trans (.of k),h.fd.same k,h.rf,rl_same h.rl k,h.tf,h.tabs.keep fun b o _ e=>k b o e,h.len,fun i s e=>(h.sl i s e).same h.fd k,h.apart⟩
theorem same_new {H:Hp} {p:Addr} (h:H p = none) (o:HO):Same H (upd H p o):=fun b u q=>by rw [upd_ne (ne_of_none q h)];exact q
theorem SlOk.less {o:Option (Option V)} (fd:FD F H) (hs:∀ b,F' b→F b):∀ {s:Sl},(∀ a,ow s = true→o = some (some (.ref a))→F' a)→SlOk K G F H o s→SlOk K G F' H o s
 | .no,_,_=>trivial
 | .val d,_,h=>by
   obtain ⟨v,e,h⟩:=h
   exact ⟨v,e,Rel.less fd hs h⟩
 | .own ds,q,h=>by
   obtain ⟨a,xs,e,h1,h2,h3,h4⟩:=h
   exact ⟨a,xs,e,q a rfl e,h2,h3,RelL.less fd hs h4⟩
 | .fnc n cs,_,h=>h
 | .odc ks ds,q,h=>by
   obtain ⟨a,xs,e,h1,h2,h3,h4,h5,h6⟩:=h
   exact ⟨a,xs,e,q a rfl e,h2,h3,h4,h5,RelL.less fd hs h6⟩
inductive RelO (K:PySem.W.Frag) (H:Hp) (F:Addr→Prop):D→HO→Prop
 | lst {ds:List D} {xs:List V}:RelL K H F ds xs→RelO K H F (.lst ds) (.lst xs)
 | dct {ks:List Str} {ds:List D} {vs:List V}:ks.Nodup→ks.length = ds.length→RelL K H F ds vs→RelO K H F (.dct ks ds) (.dK (zk ks vs))
def owS:D→Sl
 | .lst ds=>.own ds
 | .dct ks ds=>.odc ks ds
 | _=>.no
theorem owS_inj {d d':D} (h:ow (owS d) = true) (e:owS d = owS d'):d = d':=by
 cases d<;>first | (cases h;done) | skip
 · cases d'<;>first | (cases e;rfl) | cases e
 · cases d'<;>first | (cases e;rfl) | cases e
theorem RelO.mo {d:D} {o:HO} (h:RelO K H F d o):Mo o∧ow (owS d) = true:=by
 cases h<;>exact ⟨trivial,rfl⟩
theorem RelO.step (fd:FD F H) (s:Step G F H F' H') {d:D} {o:HO} (h:RelO K H F d o):RelO K H' F' d o:=by
 cases h with
 | lst h=>exact .lst (RelL.step fd s _ _ h)
 | dct h1 h2 h3=>exact .dct h1 h2 (RelL.step fd s _ _ h3)
theorem RelO.sl {o:Option (Option V)} {a:Addr} {d:D} {u:HO} (e:o = some (some (.ref a))) (hF:F a) (hg:G.free a) (h:H a = some u) (r:RelO K H F d u):SlOk K G F H o (owS d):=by
 cases r with
 | lst r=>exact ⟨a,_,e,hF,hg,h,r⟩
 | dct h1 h2 h3=>exact ⟨a,_,e,hF,hg,h,h1,h2,h3⟩
theorem SlOk.ow {o:Option (Option V)} {s:Sl} (h:SlOk K G F H o s) (q:ow s = true):∃ a u d,o = some (some (.ref a))∧F a∧G.free a∧H a = some u∧RelO K H F d u∧s = owS d:=by
 cases s with
 | own ds =>
   obtain ⟨a,xs,e,h1,h2,h3,h4⟩:=h
   exact ⟨a,_,.lst ds,e,h1,h2,h3,.lst h4,rfl⟩
 | odc ks ds =>
   obtain ⟨a,xs,e,h1,h2,h3,h4,h5,h6⟩:=h
   exact ⟨a,_,.dct ks ds,e,h1,h2,h3,.dct h4 h5 h6,rfl⟩
 | _=>cases q
theorem SlOk.stay0 {G':Gh} {o:Option (Option V)} (fd:FD F H) (st:Step G' F H F' H') (k:∀ a u,o = some (some (.ref a))→F a→G.free a→H a = some u→F' a∧H' a = some u):∀ {s:Sl},SlOk K G F H o s→SlOk K G F' H' o s
 | .no,_=>trivial
 | .fnc n cs,h=>by
   obtain ⟨v,e,z⟩:=h
   exact ⟨v,e,z.keep (fz_keep fd st.keep)⟩
 | .val d,h=>by
   obtain ⟨v,e,z⟩:=h
   exact ⟨v,e,Rel.step fd st d v z⟩
 | .own ds,h=>by
   obtain ⟨a,u,d,e,h1,h2,h3,h4,e5⟩:=SlOk.ow h rfl
   rw [e5]
   obtain ⟨k1,k2⟩:=k a u e h1 h2 h3
   exact RelO.sl e k1 h2 k2 (h4.step fd st)
 | .odc ks ds,h=>by
   obtain ⟨a,u,d,e,h1,h2,h3,h4,e5⟩:=SlOk.ow h rfl
   rw [e5]
   obtain ⟨k1,k2⟩:=k a u e h1 h2 h3
   exact RelO.sl e k1 h2 k2 (h4.step fd st)
theorem SlOk.stay {o:Option (Option V)} (fd:FD F H) (st:Step G F H F' H') (k:∀ a u,o = some (some (.ref a))→F a→G.free a→H a = some u→F' a∧H' a = some u) {s:Sl} (h:SlOk K G F H o s):SlOk K G F' H' o s:=SlOk.stay0 fd st k h
theorem SlOk.free {G':Gh} {o:Option (Option V)} (k:∀ a,F a→G.free a→G'.free a):∀ {s:Sl},SlOk K G F H o s→SlOk K G' F H o s
 | .no,_=>trivial
 | .fnc n cs,h=>h
 | .val d,h=>h
 | .own ds,h=>by
   obtain ⟨a,xs,e,h1,h2,h3⟩:=h
   exact ⟨a,xs,e,h1,k a h1 h2,h3⟩
 | .odc ks ds,h=>by
   obtain ⟨a,xs,e,h1,h2,h3⟩:=h
   exact ⟨a,xs,e,h1,k a h1 h2,h3⟩
theorem RelO.rel (fd:FD F H) (hs:∀ b,F' b→F b) {a:Addr} (n:¬ F' a) {d:D} {u:HO} (h:H a = some u) (r:RelO K H F d u):Rel K H F' d (.ref a):=by
 cases r with
 | lst r =>
   unfold Rel
   exact ⟨a,_,rfl,.inl ⟨.inl h,n⟩,RelL.less fd hs r⟩
 | dct h1 h2 h3 =>
   unfold Rel
   exact ⟨a,_,rfl,.inl h,n,h1,h2,RelL.less fd hs h3⟩
theorem set_two {α:Type} {l:List α} {i j:Nat} {x y:α} (hi:i < l.length) (q:(l.set i x)[j]? = some y):(j = i∧y = x)∨(j≠i∧l[j]? = some y):=by
 by_cases hj:j = i
 · subst hj
   rw [List.getElem?_set_self hi] at q
   cases q
   exact .inl ⟨rfl,rfl⟩
 · rw [List.getElem?_set_ne (Ne.symm hj)] at q
   exact .inr ⟨hj,q⟩
theorem Ok.demote (h:Ok K G F σ H δ) {i:Nat} {d:D} {a:Addr} (e:δ[i]? = some (owS d)) (eo:ow (owS d) = true) (ea:σ[i]? = some (some (.ref a))) :
 Ok K G (fun b=>F b∧b≠a) σ H (δ.set i (.val d))∧Rel K H (fun b=>F b∧b≠a) d (.ref a):=by
 have hi:i < δ.length:=(List.getElem?_eq_some_iff.mp e).1
 obtain ⟨a',u,d',e1,h1,h2,h3,h4,ed⟩:=SlOk.ow (h.sl i _ e) eo
 rw [ea] at e1;cases e1
 have ed:=owS_inj eo ed
 subst ed
 have hs:∀ b,(F b∧b≠a)→F b:=fun b z=>z.1
 have r:Rel K H (fun b=>F b∧b≠a) d (.ref a):=RelO.rel h.fd hs (fun z=>z.2 rfl) h3 h4
 have tf':TF fun b=>F b∧b≠a:=fun t ht=>⟨h.tf t ht,fun w=>by
  obtain ⟨ps,e2,_⟩:=h.tabs t ht
  rw [w,h3] at e2;cases e2
  exact h4.mo.1⟩
 refine ⟨⟨h.same,fun b z=>h.fd b z.1,fun b z=>⟨h.rf b z,fun w=>h2.2 (by rw [← w];exact z)⟩,h.rl,tf',h.tabs,by rw [List.length_set];exact h.len,fun j s q=>?_,fun j k s t b q1 q2 o1 o2 p1 p2=>?_⟩,r⟩
 · rcases set_two hi q with ⟨rfl,rfl⟩ | ⟨hj,q⟩
   · exact ⟨.ref a,ea,r⟩
   · refine (h.sl j s q).less h.fd hs fun b z zb=>?_
     obtain ⟨b',u',d',e1,f1,_⟩:=SlOk.ow (h.sl j _ q) z
     rw [zb] at e1;cases e1
     exact ⟨f1,fun w=>hj (h.apart j i _ _ a q e z eo (by rw [zb,w]) ea)⟩
 · rcases set_two hi q1 with ⟨rfl,rfl⟩ | ⟨hj,q1⟩
   · cases o1
   · rcases set_two hi q2 with ⟨rfl,rfl⟩ | ⟨hk,q2⟩
     · cases o2
     · exact h.apart j k s t b q1 q2 o1 o2 p1 p2
theorem Ok.set (h:Ok K G F σ H δ) {i:Nat} {d:D} {v:V} (hi:i < δ.length) (r:Rel K H F d v):Ok K G F (σ.set i (some v)) H (δ.set i (.val d)):=by
 have hi':i < σ.length:=by rw [← h.len];exact hi
 refine ⟨h.same,h.fd,h.rf,h.rl,h.tf,h.tabs,by rw [List.length_set,List.length_set];exact h.len,fun j s q=>?_,fun j k s t b q1 q2 o1 o2 p1 p2=>?_⟩
 · rcases set_two hi q with ⟨rfl,rfl⟩ | ⟨hj,q⟩
   · exact ⟨v,by rw [List.getElem?_set_self hi'],r⟩
   · rw [List.getElem?_set_ne (Ne.symm hj)]
     exact h.sl j s q
 · rcases set_two hi q1 with ⟨rfl,rfl⟩ | ⟨hj,q1⟩
   · cases o1
   · rcases set_two hi q2 with ⟨rfl,rfl⟩ | ⟨hk,q2⟩
     · cases o2
     · rw [List.getElem?_set_ne (Ne.symm hj)] at p1
       rw [List.getElem?_set_ne (Ne.symm hk)] at p2
       exact h.apart j k s t b q1 q2 o1 o2 p1 p2
theorem Ok.ownO (h:Ok K G F σ H δ) {i:Nat} {d:D} {u:HO} {p:Addr} (hi:i < δ.length) (hp:F p) (hg:G.free p) (e:H p = some u) (r:RelO K H F d u)
 (hn:∀ (j:Nat) s,δ[j]? = some s→ow s = true→σ[j]?≠some (some (.ref p))):Ok K G F (σ.set i (some (.ref p))) H (δ.set i (owS d)):=by
 have hi':i < σ.length:=by rw [← h.len];exact hi
 refine ⟨h.same,h.fd,h.rf,h.rl,h.tf,h.tabs,by rw [List.length_set,List.length_set];exact h.len,fun j s q=>?_,fun j k s t b q1 q2 o1 o2 p1 p2=>?_⟩
 · rcases set_two hi q with ⟨rfl,rfl⟩ | ⟨hj,q⟩
   · exact RelO.sl (by rw [List.getElem?_set_self hi']) hp hg e r
   · rw [List.getElem?_set_ne (Ne.symm hj)]
     exact h.sl j s q
 · rcases set_two hi q1 with ⟨rfl,rfl⟩ | ⟨hj,q3⟩
   · rcases set_two hi q2 with ⟨rfl,rfl⟩ | ⟨hk,q2⟩
     · rfl
     · rw [List.getElem?_set_self hi'] at p1
       rw [List.getElem?_set_ne (Ne.symm hk)] at p2
       cases p1
       exact (hn k t q2 o2 p2).elim
   · rw [List.getElem?_set_ne (Ne.symm hj)] at p1
     rcases set_two hi q2 with ⟨rfl,rfl⟩ | ⟨hk,q2⟩
     · rw [List.getElem?_set_self hi'] at p2
       cases p2
       exact (hn j s q3 o1 p1).elim
     · rw [List.getElem?_set_ne (Ne.symm hk)] at p2
       exact h.apart j k s t b q3 q2 o1 o2 p1 p2
theorem Ok.own (h:Ok K G F σ H δ) {i:Nat} {ds:List D} {xs:List V} {p:Addr} (hi:i < δ.length) (hp:F p) (hg:G.free p) (e:H p = some (.lst xs)) (r:RelL K H F ds xs)
 (hn:∀ (j:Nat) s,δ[j]? = some s→ow s = true→σ[j]?≠some (some (.ref p))):Ok K G F (σ.set i (some (.ref p))) H (δ.set i (.own ds)):=h.ownO (d:=.lst ds) hi hp hg e (.lst r) hn
theorem Ok.writeO (h:Ok K G F σ H δ) {i:Nat} {d d':D} {a:Addr} {u:HO} (e:δ[i]? = some (owS d)) (eo:ow (owS d) = true) (ea:σ[i]? = some (some (.ref a))) (r:RelO K H F d' u) :
 Ok K G F σ (upd H a u) (δ.set i (owS d'))∧Step G F H F (upd H a u):=by
 have hi:i < δ.length:=(List.getElem?_eq_some_iff.mp e).1
 have e':=e
 obtain ⟨a',x,d0,e1,h1,h2,h3,h4,_⟩:=SlOk.ow (h.sl i _ e) eo
 rw [ea] at e1;cases e1
 have nt:NT x:=by
  have m:=h4.mo.1
  cases x<;>first | trivial | exact m
 have st:Step G F H F (upd H a u):=⟨fun b o _ q n=>by
  rw [upd_ne (fun z:b = a=>n (by rw [z];exact h1))];exact q,fun b z=>.inl z,fun b o r z e=>⟨z,by rw [upd_ne (fun w:b = a=>h2.2 (by rw [← w];exact r))];exact e⟩,fun b ps e=>⟨ps,by rw [upd_ne (fun w:b = a=>by rw [w,h3] at e;cases e;exact nt)];exact e⟩⟩
 have tb':Tabs (upd H a u):=h.tabs.keep fun b o n e=>by rw [upd_ne (fun w:b = a=>by rw [w,h3] at e;cases e;exact n h4.mo.1)];exact e
 refine ⟨⟨⟨fun b o t q=>?_,fun b ps q=>?_⟩,fun b z=>?_,h.rf,fun b z=>?_,h.tf,tb',by rw [List.length_set];exact h.len,fun j s q=>?_,fun j k s t b q1 q2 o1 o2 p1 p2=>?_⟩,st⟩
 · have:=h.same.nt b o t q
   rw [upd_ne (fun z:b = a=>by rw [z,h2.1] at q;cases q)]
   exact this
 · rw [upd_ne (fun z:b = a=>by rw [z,h2.1] at q;cases q)]
   exact h.same.tb b ps q
 · by_cases hb:b = a
   · subst hb;exact ⟨u,upd_same,.inl r.mo.1⟩
   · rw [upd_ne hb];exact h.fd b z
 · by_cases hb:b = a
   · subst hb;exact ⟨u,upd_same,r.mo.1⟩
   · rw [upd_ne hb];exact h.rl b z
 · rcases set_two hi q with ⟨rfl,rfl⟩ | ⟨hj,q⟩
   · exact RelO.sl ea h1 h2 upd_same (r.step h.fd st)
   · cases eq:ow s with
     | true =>
       refine SlOk.stay h.fd st (fun b v e f1 f2 f3=>⟨f1,?_⟩) (h.sl j s q)
       rw [upd_ne (fun w:b = a=>hj (h.apart j i _ _ a q e' eq eo (by rw [e,w]) ea))]
       exact f3
     | false =>
       have z:=h.sl j s q
       cases s with
       | no=>trivial
       | fnc n cs =>
         obtain ⟨v,e,z⟩:=z
         exact ⟨v,e,z.keep (fz_keep h.fd st.keep)⟩
       | val d =>
         obtain ⟨v,e,z⟩:=z
         exact ⟨v,e,Rel.step h.fd st d v z⟩
       | own _=>cases eq
       | odc _ _=>cases eq
 · have un:∀ (m:Nat) (g:Sl),(δ.set i (owS d'))[m]? = some g→ow g = true→∃ g',δ[m]? = some g'∧ow g' = true:=fun m g q o=>by
    rcases set_two hi q with ⟨rfl,rfl⟩ | ⟨hj,q⟩
    · exact ⟨_,e,eo⟩
    · exact ⟨g,q,o⟩
   obtain ⟨g1,q1,o1⟩:=un j _ q1 o1
   obtain ⟨g2,q2,o2⟩:=un k _ q2 o2
   exact h.apart j k g1 g2 b q1 q2 o1 o2 p1 p2
theorem Ok.write (h:Ok K G F σ H δ) {i:Nat} {ds es:List D} {a:Addr} {ys:List V} (e:δ[i]? = some (.own ds)) (ea:σ[i]? = some (some (.ref a))) (r:RelL K H F es ys) :
 Ok K G F σ (upd H a (.lst ys)) (δ.set i (.own es))∧Step G F H F (upd H a (.lst ys)):=h.writeO (d:=.lst ds) (d':=.lst es) e rfl ea (.lst r)
theorem Mo.nt {o:HO} (m:Mo o):NT o:=by
 cases o<;>first | trivial | exact m
theorem Step.of_sim (rl:∀ b,G.R b→∃ o,H b = some o∧Mo o) (k:Sim H H'):Step G F H F H':=⟨fun b o t e _=>k.nt b o t e,fun b z=>.inl z,fun b o r f e=>⟨f,by
 obtain ⟨u,e2,m⟩:=rl b r
 rw [e] at e2
 cases e2
 exact k.nt b _ m.nt e⟩,k.tb⟩
theorem Ok.call (h:Ok K G F σ H δ) (k:Sim H H') (t:Tabs H'):Ok K G F σ H' δ∧Step G F H F H':=by
 have st:Step G F H F H':=Step.of_sim h.rl k
 refine ⟨⟨h.same.trans k,fun b z=>?_,h.rf,fun b z=>?_,h.tf,t,h.len,fun i s e=>?_,h.apart⟩,st⟩
 · obtain ⟨o,e,m⟩:=h.fd b z
   rcases m with m | ⟨⟨ps,rfl⟩,t⟩
   · exact ⟨o,k.nt _ _ m.nt e,.inl m⟩
   · obtain ⟨qs,e⟩:=k.tb b ps e
     exact ⟨_,e,.inr ⟨⟨qs,rfl⟩,t⟩⟩
 · obtain ⟨o,e,m⟩:=h.rl b z
   exact ⟨o,k.nt _ _ m.nt e,m⟩
 · cases eq:ow s with
   | true =>
     obtain ⟨_,_,_,_,_,_,h3,h4,_⟩:=SlOk.ow (h.sl i s e) eq
     refine SlOk.stay h.fd st (fun b v e2 f1 f2 f3=>⟨f1,?_⟩) (h.sl i s e)
     obtain ⟨o,e3,m⟩:=h.fd b f1
     rw [f3] at e3
     cases e3
     rcases m with m | ⟨⟨ps,rfl⟩,t,ht,eb⟩
     · exact k.nt _ _ m.nt f3
     · exfalso
       obtain ⟨c,w,d,e5,_,_,e7,r7,_⟩:=SlOk.ow (h.sl i s e) eq
       rw [e2] at e5
       cases e5
       rw [f3] at e7
       cases e7
       exact r7.mo.1
   | false =>
     have q:=h.sl i s e
     cases s with
     | no=>trivial
     | fnc n cs =>
       obtain ⟨v,e,r⟩:=q
       exact ⟨v,e,r.keep (fz_keep h.fd st.keep)⟩
     | val d =>
       obtain ⟨v,e,r⟩:=q
       exact ⟨v,e,Rel.step h.fd st d v r⟩
     | own _=>cases eq
     | odc _ _=>cases eq
end
end PP
end
section
namespace PP
open PySem L2 PyProof.Rows PySem.SeqAt
variable [Tbs]
theorem foldl_app (xs:List (Array Nat)):∀ a:Array Nat,(xs.foldl (·++·) a).toList = a.toList++(xs.map (·.toList)).flatten:=by
 induction xs with
 | nil=>intro a;simp
 | cons x r ih=>intro a;rw [List.foldl_cons,ih];simp
theorem mul_rep (x:Str) (n:Int) (h:0≤n):Txt.mul x n = repS x n.toNat:=by
 unfold Txt.mul repS
 by_cases h1:n < 1
 · have:n = 0:=by omega
   subst this
   rfl
 · rw [if_neg h1]
   by_cases h2:(n == 1 || x.length == 0) = true
   · rw [if_pos h2]
     rw [Bool.or_eq_true] at h2
     rcases h2 with h2 | h2
     · have:n = 1:=by simpa using h2
       subst this
       simp
     · have e:x.cps = #[]:=by
        have:x.cps.size = 0:=by simpa [Str.length] using h2
        exact Array.eq_empty_of_size_eq_zero this
       cases x
       simp at e
       subst e
       simp
   · rw [if_neg h2]
     congr 1
     apply Array.ext'
     rw [foldl_app]
     simp
theorem op_mulS {X:Cx}:OpR X (binaryOp .Mult) (fun x y H Q=>∃ i n,x = .str i∧y = .int n∧(0≤n∧n≤1000∧i.length≤1000)∧Q (.str (repS i n.toNat)) H):=by
 intro pins s σ H x y v u Q I rx ry h
 obtain ⟨i,n,rfl,rfl,⟨h1,h2,h3⟩,q⟩:=h
 obtain ⟨t,rfl⟩:=rx
 obtain ⟨t',rfl⟩:=ry
 refine SB.mul ⟨?_,fun a _ b=>?_,fun a _=>?_⟩ fun t' k=>?_
 · simp;omega
 · have:(1000:Int)≤(2 ^ 63 - 1) / n:=by rw [Int.le_ediv_iff_mul_le (by omega)];omega
   omega
 · have:i.length * n.toNat≤1000 * 1000:=Nat.mul_le_mul h3 (by omega)
   have z:=sizeLine_eq
   unfold Builtin.Str.tooLong
   simp
   omega
 · rw [mul_rep i n h1]
   exact ⟨.str _,H,I.tok _,⟨_,rfl⟩,q⟩
mutual
def RdV (h:Heap):D→Value→Prop
 | .non,u=>u = .none
 | .bl b,u=>u = .bool b
 | .int i,u=>∃ t,u = .int i t
 | .str x,u=>∃ t,u = .str x t
 | .lst ds,u=>∃ a its,u = .ref a∧h.IsList a its∧RdL h ds its.toList
 | .tup ds,u=>∃ a its,u = .ref a∧h.IsTuple a its∧RdL h ds its.toList
 | .fn _ _,_=>False
 | .dct _ _,_=>False
def RdL (h:Heap):List D→List Value→Prop
 | [],us=>us = []
 | d::ds,us=>∃ w ws,us = w::ws∧RdV h d w∧RdL h ds ws
end
mutual
theorem rdV_of {X:Cx} {pins:List (Addr × Obj)} {σ:L2.St} {H:Hp} {s:Shared} {F:Addr→Prop} (I:Inv X pins σ H s):∀ (d:D) (v:V) (u:Value),Rel X.K H F d v→RelV v u→dep d < 100000→RdV s.heap d u
 | .non,v,u,h,r,_=>by unfold Rel at h;subst h;unfold RdV;exact r
 | .bl b,v,u,h,r,_=>by unfold Rel at h;subst h;unfold RdV;exact r
 | .int b,v,u,h,r,_=>by unfold Rel at h;subst h;unfold RdV;exact r
 | .str b,v,u,h,r,_=>by unfold Rel at h;subst h;unfold RdV;exact r
 | .lst ds,v,u,h,r,hd=>by
   unfold dep at hd
   unfold Rel at h
   obtain ⟨a,xs,e,h1,h3⟩:=h
   subst e
   cases (show u = Value.ref a from r)
   obtain ⟨its,rv,p,hz⟩:=I.list h1.sq
   unfold RdV
   exact ⟨a,its.toArray,rfl,p.isList,rdL_of I ds xs its h3 rv (by omega)⟩
 | .tup ds,v,u,h,r,hd=>by
   unfold dep at hd
   unfold Rel at h
   obtain ⟨a,xs,e,h1,h3⟩:=h
   subst e
   cases (show u = Value.ref a from r)
   obtain ⟨its,rv,p,hz⟩:=I.tuple h1
   unfold RdV
   exact ⟨a,its.toArray,rfl,p,rdL_of I ds xs its h3 rv (by omega)⟩
 | .fn _ _,v,u,h,r,_=>by unfold Rel at h;exact h.elim
 | .dct _ _,v,u,h,r,hd=>by unfold dep at hd;exact absurd hd (Nat.lt_irrefl _)
theorem rdL_of {X:Cx} {pins:List (Addr × Obj)} {σ:L2.St} {H:Hp} {s:Shared} {F:Addr→Prop} (I:Inv X pins σ H s):∀ (ds:List D) (xs:List V) (us:List Value),RelL X.K H F ds xs→Vals xs us→depL ds < 100000→RdL s.heap ds us
 | [],xs,us,h,r,_=>by unfold RelL at h;subst h;cases r;unfold RdL;rfl
 | d::ds,xs,us,h,r,hd=>by
   unfold depL at hd
   unfold RelL at h
   obtain ⟨y,ys,e,h1,h2⟩:=h
   subst e
   cases r with
   | cons r1 r2 =>
     unfold RdL
     exact ⟨_,_,rfl,rdV_of I d y _ h1 r1 (by omega),rdL_of I ds ys _ h2 r2 (by omega)⟩
end
theorem rdB_of {X:Cx} {pins:List (Addr × Obj)} {σ:L2.St} {H:Hp} {s:Shared} {F:Addr→Prop} (I:Inv X pins σ H s) {d:D} {v:V} {u:Value} (h:RelB X.K H F d v) (r:RelV v u) (hd:dep d < 100000):RdV s.heap d u:=by
 rcases h with h | ⟨a,xs,ds,rfl,rfl,h1,h2⟩
 · exact rdV_of I d v u h r hd
 · cases (show u = Value.ref a from r)
   obtain ⟨its,rv,p,hz⟩:=I.list (.inl (.inl h1))
   unfold RdV
   unfold dep at hd
   exact ⟨a,its.toArray,rfl,p.isList,rdL_of I ds xs its h2 rv (by omega)⟩
mutual
theorem RdV.inj {h:Heap}:∀ (d e:D) (u:Value),RdV h d u→RdV h e u→d = e
 | .non,e,u,a,b=>by
   unfold RdV at a;subst a
   cases e<;>unfold RdV at b<;>first | rfl | (obtain ⟨_,_,b,_⟩:=b;cases b;done) | (obtain ⟨_,b⟩:=b;cases b;done) | (cases b;done)
 | .bl x,e,u,a,b=>by
   unfold RdV at a;subst a
   cases e<;>unfold RdV at b<;>first | (cases b;rfl) | (obtain ⟨_,_,b,_⟩:=b;cases b;done) | (obtain ⟨_,b⟩:=b;cases b;done) | (cases b;done)
 | .int x,e,u,a,b=>by
   unfold RdV at a;obtain ⟨t,a⟩:=a;subst a
   cases e<;>unfold RdV at b<;>first | (obtain ⟨_,_,b,_⟩:=b;cases b;done) | (obtain ⟨_,b⟩:=b;cases b;rfl) | (obtain ⟨_,b⟩:=b;cases b;done) | (cases b;done)
 | .str x,e,u,a,b=>by
   unfold RdV at a;obtain ⟨t,a⟩:=a;subst a
   cases e<;>unfold RdV at b<;>first | (obtain ⟨_,_,b,_⟩:=b;cases b;done) | (obtain ⟨_,b⟩:=b;cases b;rfl) | (obtain ⟨_,b⟩:=b;cases b;done) | (cases b;done)
 | .lst ds,e,u,a,b=>by
   unfold RdV at a;obtain ⟨l,its,a,h1,h2⟩:=a;subst a
   cases e with
   | lst es =>
     unfold RdV at b;obtain ⟨l',its',b,k1,k2⟩:=b;cases b
     obtain ⟨o,g1,g2,n,g3⟩:=h1
     obtain ⟨o',f1,f2,n',f3⟩:=k1
     rw [g1] at f1;cases f1
     rw [g3] at f3;cases f3
     rw [RdL.inj ds es _ h2 k2]
   | tup es =>
     unfold RdV at b;obtain ⟨l',its',b,k1,k2⟩:=b;cases b
     obtain ⟨o,g1,g2,_⟩:=h1
     obtain ⟨o',f1,f2,_⟩:=k1
     rw [g1] at f1;cases f1
     rw [g2] at f2;injection f2 with f2;exact absurd f2 (by decide)
   | _=>unfold RdV at b;first | (obtain ⟨_,b⟩:=b;cases b) | cases b
 | .tup ds,e,u,a,b=>by
   unfold RdV at a;obtain ⟨l,its,a,h1,h2⟩:=a;subst a
   cases e with
   | tup es =>
     unfold RdV at b;obtain ⟨l',its',b,k1,k2⟩:=b;cases b
     obtain ⟨o,g1,g2,n,g3⟩:=h1
     obtain ⟨o',f1,f2,n',f3⟩:=k1
     rw [g1] at f1;cases f1
     rw [g3] at f3;cases f3
     rw [RdL.inj ds es _ h2 k2]
   | lst es =>
     unfold RdV at b;obtain ⟨l',its',b,k1,k2⟩:=b;cases b
     obtain ⟨o,g1,g2,_⟩:=h1
     obtain ⟨o',f1,f2,_⟩:=k1
     rw [g1] at f1;cases f1
     rw [g2] at f2;injection f2 with f2;exact absurd f2 (by decide)
   | _=>unfold RdV at b;first | (obtain ⟨_,b⟩:=b;cases b) | cases b
 | .fn _ _,e,u,a,b=>by unfold RdV at a;exact a.elim
 | .dct _ _,e,u,a,b=>by unfold RdV at a;exact a.elim
theorem RdL.inj {h:Heap}:∀ (ds es:List D) (us:List Value),RdL h ds us→RdL h es us→ds = es
 | [],es,us,a,b=>by
   unfold RdL at a;subst a
   cases es with
   | nil=>rfl
   | cons e es=>unfold RdL at b;obtain ⟨_,_,b,_⟩:=b;cases b
 | d::ds,es,us,a,b=>by
   unfold RdL at a;obtain ⟨w,ws,a,h1,h2⟩:=a;subst a
   cases es with
   | nil=>unfold RdL at b;cases b
   | cons e es =>
     unfold RdL at b;obtain ⟨_,_,b,k1,k2⟩:=b;cases b
     rw [RdV.inj d e w h1 k1,RdL.inj ds es ws h2 k2]
end
mutual
theorem eqD_refl:∀ d:D,dep d < 100000→eqD d d = true
 | .non,_=>by unfold eqD;rfl
 | .bl b,_=>by unfold eqD;simp
 | .int b,_=>by unfold eqD;simp
 | .str b,_=>by unfold eqD;simp
 | .lst ds,h=>by unfold eqD;exact eqDs_refl ds (by unfold dep at h;omega)
 | .tup ds,h=>by unfold eqD;exact eqDs_refl ds (by unfold dep at h;omega)
 | .fn _ _,h=>by unfold dep at h;omega
 | .dct _ _,h=>by unfold dep at h;omega
theorem eqDs_refl:∀ ds:List D,depL ds < 100000→eqDs ds ds = true
 | [],_=>by unfold eqDs;rfl
 | d::ds,h=>by
   unfold depL at h
   unfold eqDs
   rw [eqD_refl d (by omega),eqDs_refl ds (by omega)]
   rfl
end
def pairD (ds es:List D) (j:Nat):Bool:=match ds[j]?,es[j]? with
 | some x,some y=>eqD x y
 | _,_=>false
theorem pairD_all:∀ (ds es:List D),(List.range (min ds.length es.length)).all (pairD ds es) = true∧ds.length = es.length↔eqDs ds es = true
 | [],[]=>by unfold eqDs;simp
 | [],_::_=>by unfold eqDs;simp
 | _::_,[]=>by unfold eqDs;simp
 | d::ds,e::es=>by
   have ih:=pairD_all ds es
   have e1:min (d::ds).length (e::es).length = min ds.length es.length+1:=by simp only [List.length_cons];omega
   rw [e1,List.range_succ_eq_map,List.all_cons,List.all_map]
   have e2:(pairD (d::ds) (e::es) ∘ Nat.succ) = pairD ds es:=by funext j;simp [pairD]
   rw [e2]
   unfold eqDs
   rw [Bool.and_eq_true,Bool.and_eq_true,← ih]
   have e3:pairD (d::ds) (e::es) 0 = eqD d e:=rfl
   rw [e3]
   simp only [List.length_cons]
   constructor
   · rintro ⟨⟨a,b⟩,c⟩;exact ⟨a,b,by omega⟩
   · rintro ⟨a,b,c⟩;exact ⟨⟨a,b⟩,by omega⟩
theorem eqDs_len {ds es:List D} (h:ds.length = es.length):(List.range ds.length).all (pairD ds es) = eqDs ds es:=by
 have q:=pairD_all ds es
 rw [← h,Nat.min_self] at q
 rw [Bool.eq_iff_iff]
 rw [← q]
 simp
theorem eqDs_ne {ds es:List D} (h:ds.length≠es.length):eqDs ds es = false:=by
 have q:=pairD_all ds es
 rw [Bool.eq_false_iff]
 intro z
 exact h (q.mpr z).2
theorem eqDs_both (ds es:List D):((List.range (min ds.length es.length)).all (pairD ds es) && ds.length == es.length) = eqDs ds es:=by
 have q:=pairD_all ds es
 rw [Bool.eq_iff_iff,Bool.and_eq_true,← q]
 simp
theorem RdL.length {h:Heap}:∀ {ds:List D} {us:List Value},RdL h ds us→us.length = ds.length
 | [],us,a=>by unfold RdL at a;subst a;rfl
 | d::ds,us,a=>by
   unfold RdL at a;obtain ⟨w,ws,a,_,h2⟩:=a;subst a
   rw [List.length_cons,List.length_cons,RdL.length h2]
mutual
theorem eqAt_D:∀ (a b:D) (A:Around) (s:Shared) (u v:Value),RdV s.heap a u→RdV s.heap b v→A.units+min (dep a) (dep b) < cLine→EqAt A s u v (eqD a b)
 | .non,b,A,s,u,v,ra,rb,hu=>by
   unfold RdV at ra;subst ra
   cases b with
   | non=>unfold RdV at rb;subst rb;unfold eqD;exact EqAt.same _
   | bl b=>unfold RdV at rb;subst rb;unfold eqD;exact EqAt.none_bool b
   | int b=>unfold RdV at rb;obtain ⟨t,rfl⟩:=rb;unfold eqD;exact EqAt.none_int b t
   | str b=>unfold RdV at rb;obtain ⟨t,rfl⟩:=rb;unfold eqD;exact EqAt.none_str b t
   | lst ds=>unfold RdV at rb;obtain ⟨l,its,rfl,h1,h2⟩:=rb;unfold eqD;exact EqAt.none_list h1 (by omega)
   | tup ds=>unfold RdV at rb;obtain ⟨l,its,rfl,h1,h2⟩:=rb;unfold eqD;exact EqAt.none_tuple h1 (by omega)
   | fn _ _=>unfold RdV at rb;exact rb.elim
   | dct _ _=>unfold RdV at rb;exact rb.elim
 | .bl a,b,A,s,u,v,ra,rb,hu=>by
   unfold RdV at ra;subst ra
   cases b with
   | non=>unfold RdV at rb;subst rb;unfold eqD;exact EqAt.bool_none a
   | bl b=>unfold RdV at rb;subst rb;unfold eqD;exact EqAt.bool_bool a b
   | int b=>unfold RdV at rb;obtain ⟨t,rfl⟩:=rb;unfold eqD;exact EqAt.bool_int a b t
   | str b=>unfold RdV at rb;obtain ⟨t,rfl⟩:=rb;unfold eqD;exact EqAt.bool_str a b t
   | lst ds=>unfold RdV at rb;obtain ⟨l,its,rfl,h1,h2⟩:=rb;unfold eqD;exact EqAt.bool_list a h1 (by omega)
   | tup ds=>unfold RdV at rb;obtain ⟨l,its,rfl,h1,h2⟩:=rb;unfold eqD;exact EqAt.bool_tuple a h1 (by omega)
   | fn _ _=>unfold RdV at rb;exact rb.elim
   | dct _ _=>unfold RdV at rb;exact rb.elim
 | .int a,b,A,s,u,v,ra,rb,hu=>by
   unfold RdV at ra;obtain ⟨t',rfl⟩:=ra
   cases b with
   | non=>unfold RdV at rb;subst rb;unfold eqD;exact EqAt.int_none a t'
   | bl b=>unfold RdV at rb;subst rb;unfold eqD;exact EqAt.int_bool a t' b
   | int b=>unfold RdV at rb;obtain ⟨t,rfl⟩:=rb;unfold eqD;exact EqAt.int_int a t' b t
   | str b=>unfold RdV at rb;obtain ⟨t,rfl⟩:=rb;unfold eqD;exact EqAt.int_str a t' b t
   | lst ds=>unfold RdV at rb;obtain ⟨l,its,rfl,h1,h2⟩:=rb;unfold eqD;exact EqAt.int_list a t' h1 (by omega)
   | tup ds=>unfold RdV at rb;obtain ⟨l,its,rfl,h1,h2⟩:=rb;unfold eqD;exact EqAt.int_tuple a t' h1 (by omega)
   | fn _ _=>unfold RdV at rb;exact rb.elim
   | dct _ _=>unfold RdV at rb;exact rb.elim
 | .str a,b,A,s,u,v,ra,rb,hu=>by
   unfold RdV at ra;obtain ⟨t',rfl⟩:=ra
   cases b with
   | non=>unfold RdV at rb;subst rb;unfold eqD;exact EqAt.str_none a t'
   | bl b=>unfold RdV at rb;subst rb;unfold eqD;exact EqAt.str_bool a t' b
   | int b=>unfold RdV at rb;obtain ⟨t,rfl⟩:=rb;unfold eqD;exact EqAt.str_int a t' b t
   | str b=>unfold RdV at rb;obtain ⟨t,rfl⟩:=rb;unfold eqD;exact EqAt.str_str a t' b t
   | lst ds=>unfold RdV at rb;obtain ⟨l,its,rfl,h1,h2⟩:=rb;unfold eqD;exact EqAt.str_list a t' h1 (by omega)
   | tup ds=>unfold RdV at rb;obtain ⟨l,its,rfl,h1,h2⟩:=rb;unfold eqD;exact EqAt.str_tuple a t' h1 (by omega)
   | fn _ _=>unfold RdV at rb;exact rb.elim
   | dct _ _=>unfold RdV at rb;exact rb.elim
 | .lst ds,b,A,s,u,v,ra,rb,hu=>by
   have ra':=ra
   unfold RdV at ra;obtain ⟨l,its,rfl,h1,h2⟩:=ra
   cases b with
   | non=>unfold RdV at rb;subst rb;unfold eqD;exact EqAt.list_none h1 (by omega)
   | bl b=>unfold RdV at rb;subst rb;unfold eqD;exact EqAt.list_bool b h1 (by omega)
   | int b=>unfold RdV at rb;obtain ⟨t,rfl⟩:=rb;unfold eqD;exact EqAt.list_int b t h1 (by omega)
   | str b=>unfold RdV at rb;obtain ⟨t,rfl⟩:=rb;unfold eqD;exact EqAt.list_str b t h1 (by omega)
   | tup es=>unfold RdV at rb;obtain ⟨l',its',rfl,k1,k2⟩:=rb;unfold eqD;exact EqAt.list_tuple h1 k1 (by omega)
   | lst es =>
     have rb':=rb
     unfold RdV at rb;obtain ⟨l',its',rfl,k1,k2⟩:=rb
     by_cases hl:l = l'
     · subst hl
       have e:=RdV.inj _ _ _ ra' rb'
       cases e
       have hd:dep (.lst ds) < 100000:=by rw [Nat.min_self] at hu;have:cLine = 9900:=rfl;omega
       rw [eqD_refl _ hd]
       exact EqAt.same _
     · unfold eqD
       have n1:its.size = ds.length:=by simpa using h2.length
       have n2:its'.size = es.length:=by simpa using k2.length
       have he:∀ j (j1:j < its.size) (j2:j < its'.size),EqAt A.in1 s its[j] its'[j] (pairD ds es j):=fun j j1 j2=>by
        have q:=eqAt_DL ds es A.in1 s its.toList its'.toList h2 k2 (by show A.units+1+_ < _;unfold dep at hu;omega) j (by simpa using j1) (by simpa using j2)
        simpa using q
       refine EqAt.of_refs hl ?_
       by_cases hsz:its.size = its'.size
       · rw [← eqDs_len (by omega:ds.length = es.length),← n1]
         exact RcAt.lists h1 k1 hsz (by omega) he
       · rw [eqDs_ne (by omega:ds.length≠es.length)]
         exact RcAt.lists_lengths h1 k1 (by simpa using hsz) (by omega)
   | fn _ _=>unfold RdV at rb;exact rb.elim
   | dct _ _=>unfold RdV at rb;exact rb.elim
 | .tup ds,b,A,s,u,v,ra,rb,hu=>by
   have ra':=ra
   unfold RdV at ra;obtain ⟨l,its,rfl,h1,h2⟩:=ra
   cases b with
   | non=>unfold RdV at rb;subst rb;unfold eqD;exact EqAt.tuple_none h1 (by omega)
   | bl b=>unfold RdV at rb;subst rb;unfold eqD;exact EqAt.tuple_bool b h1 (by omega)
   | int b=>unfold RdV at rb;obtain ⟨t,rfl⟩:=rb;unfold eqD;exact EqAt.tuple_int b t h1 (by omega)
   | str b=>unfold RdV at rb;obtain ⟨t,rfl⟩:=rb;unfold eqD;exact EqAt.tuple_str b t h1 (by omega)
   | lst es=>unfold RdV at rb;obtain ⟨l',its',rfl,k1,k2⟩:=rb;unfold eqD;exact EqAt.tuple_list h1 k1 (by omega)
   | tup es =>
     have rb':=rb
     unfold RdV at rb;obtain ⟨l',its',rfl,k1,k2⟩:=rb
     by_cases hl:l = l'
     · subst hl
       have e:=RdV.inj _ _ _ ra' rb'
       cases e
       have hd:dep (.tup ds) < 100000:=by rw [Nat.min_self] at hu;have:cLine = 9900:=rfl;omega
       rw [eqD_refl _ hd]
       exact EqAt.same _
     · unfold eqD
       have n1:its.size = ds.length:=by simpa using h2.length
       have n2:its'.size = es.length:=by simpa using k2.length
       have he:∀ j (j1:j < its.size) (j2:j < its'.size),EqAt A.in1 s its[j] its'[j] (pairD ds es j):=fun j j1 j2=>by
        have q:=eqAt_DL ds es A.in1 s its.toList its'.toList h2 k2 (by show A.units+1+_ < _;unfold dep at hu;omega) j (by simpa using j1) (by simpa using j2)
        simpa using q
       refine EqAt.of_refs hl ?_
       rw [← eqDs_both,← n1,← n2]
       exact RcAt.tuples h1 k1 (by omega) he
   | fn _ _=>unfold RdV at rb;exact rb.elim
   | dct _ _=>unfold RdV at rb;exact rb.elim
 | .fn _ _,b,A,s,u,v,ra,rb,hu=>by unfold RdV at ra;exact ra.elim
 | .dct _ _,b,A,s,u,v,ra,rb,hu=>by unfold RdV at ra;exact ra.elim
theorem eqAt_DL:∀ (ds es:List D) (A:Around) (s:Shared) (us vs:List Value),RdL s.heap ds us→RdL s.heap es vs→A.units+min (depL ds) (depL es) < cLine→∀ j (h1:j < us.length) (h2:j < vs.length),EqAt A s us[j] vs[j] (pairD ds es j)
 | [],_,_,_,us,_,ra,_,_,j,h1,_=>by unfold RdL at ra;subst ra;exact absurd h1 (Nat.not_lt_zero _)
 | _::_,[],_,_,_,vs,_,rb,_,j,_,h2=>by unfold RdL at rb;subst rb;exact absurd h2 (Nat.not_lt_zero _)
 | d::ds,e::es,A,s,us,vs,ra,rb,hu,j,h1,h2=>by
   unfold RdL at ra rb
   obtain ⟨w,ws,rfl,a1,a2⟩:=ra
   obtain ⟨w',ws',rfl,b1,b2⟩:=rb
   unfold depL at hu
   cases j with
   | zero=>exact eqAt_D d e A s w w' a1 b1 (by omega)
   | succ j =>
     have q:=eqAt_DL ds es A s ws ws' a2 b2 (by omega) j (by simpa using h1) (by simpa using h2)
     simpa [pairD] using q
end
theorem bits200 {i:Int} (h:i.natAbs < 2 ^ 200):Builtin.Int.intBits i≤2 ^ 20:=by
 unfold Builtin.Int.intBits
 split
 · exact Nat.zero_le _
 · rename_i h0
   have:i.natAbs.log2 < 200:=(Nat.log2_lt (by simpa using h0)).mpr h
   have:(200:Nat)≤2 ^ 20:=by decide
   omega
theorem mulB_ok {i j:Int} (h:mulOk i j = true):IntMulOk i j:=by
 unfold mulOk at h
 simp only [Bool.or_eq_true,Bool.and_eq_true,decide_eq_true_eq] at h
 rcases h with (h | h) | h
 · exact .of_left (intBits_le_64 h.1 h.2)
 · exact .of_right (intBits_le_64 h.1 h.2)
 · exact .of_bits (bits200 h.1) (bits200 h.2)
theorem op_mulB {X:Cx}:OpR X (binaryOp .Mult) (rI IntMulOk fun i j=>.int (i * j)):=opI fun _ _ _ _ _ _ _ hc q=>PyProof.Rows.mul_int q hc
theorem op_fdivB {X:Cx}:OpR X (binaryOp .FloorDiv) (rI (fun _ j=>0 < j∧j < 1000000000000000000000000000000000000000000000000000000000000) fun i j=>.int (i / j)):=opI fun i j _ _ _ _ _ hc q=>by
 have h1:(0:Int) < j:=hc.1
 have h2:j < 1000000000000000000000000000000000000000000000000000000000000:=hc.2
 refine PyProof.Rows.floordiv_int (by omega) (by rw [Int.fdiv_eq_ediv_of_nonneg i (by omega)];exact q) (.inl (PyProof.noPylong_of_log2 ?_))
 exact Nat.lt_trans ((Nat.log2_lt (k:=200) (by omega)).mpr (Nat.lt_of_lt_of_le (show j.natAbs < 1000000000000000000000000000000000000000000000000000000000000 by omega) (by decide +kernel))) (by decide)
end PP
end
section
namespace PP
open PySem L2 PyProof.Rows PySem.SeqAt
variable [Tbs]
section
variable {X:Cx}
theorem op_eqD (hu:X.A.units+200 < cLine):OpR X (compareOp .Eq) (fun x y H Q=>∃ F a b,RelB X.K H F a x∧RelB X.K H F b y∧depOk a b = true∧Q (.bl (eqD a b)) H):=by
 intro pins s σ H x y v u Q I rx ry h
 obtain ⟨F,a,b,ha,hb,hk,q⟩:=h
 unfold depOk at hk
 rw [Bool.and_eq_true,Bool.and_eq_true] at hk
 obtain ⟨⟨hk,hd⟩,hm⟩:=hk
 replace hd:=of_decide_eq_true hd
 replace hm:=of_decide_eq_true hm
 have ra:=rdB_of I ha rx (by omega)
 have rb:=rdB_of I hb ry (by omega)
 have fin:∀ k:Bool,k = eqD a b→EP X pins σ Q (.bool k) s:=fun k e=>⟨.bl k,H,I,rfl,by rw [e];exact q⟩
 cases a<;>cases b<;>first
  | (exact absurd (show false = true from hk) Bool.false_ne_true)
  | skip
 · unfold RdV at ra rb;subst ra;subst rb
   exact RcAt.bool_bool _ _ _ _ _ _ (fin _ (by unfold eqD;rfl))
 · unfold RdV at ra rb;obtain ⟨t,rfl⟩:=ra;obtain ⟨t',rfl⟩:=rb
   exact RcAt.int_int _ _ _ _ _ _ _ _ (fin _ (by unfold eqD;rfl))
 · unfold RdV at ra rb;obtain ⟨t,rfl⟩:=ra;obtain ⟨t',rfl⟩:=rb
   exact RcAt.str_str _ _ _ _ _ _ _ _ (fin _ (by unfold eqD;rfl))
 · rename_i ds es
   unfold RdV at ra rb;obtain ⟨l,its,rfl,h1,h2⟩:=ra;obtain ⟨l',its',rfl,k1,k2⟩:=rb
   have n1:its.size = ds.length:=by simpa using h2.length
   have n2:its'.size = es.length:=by simpa using k2.length
   have he:∀ j (j1:j < its.size) (j2:j < its'.size),EqAt X.A.in1 s its[j] its'[j] (pairD ds es j):=fun j j1 j2=>by
    have q:=eqAt_DL ds es X.A.in1 s its.toList its'.toList h2 k2 (by show X.A.units+1+_ < _;unfold dep at hd;omega) j (by simpa using j1) (by simpa using j2)
    simpa using q
   by_cases hsz:its.size = its'.size
   · refine eq_listAt h1 k1 hsz (by omega) he (fin _ ?_)
     unfold eqD
     rw [n1]
     exact eqDs_len (by omega)
   · refine eq_list_lengthsAt h1 k1 (by simpa using hsz) (by omega) (fin _ ?_)
     unfold eqD
     exact (eqDs_ne (by omega)).symm
 · rename_i ds es
   unfold RdV at ra rb;obtain ⟨l,its,rfl,h1,h2⟩:=ra;obtain ⟨l',its',rfl,k1,k2⟩:=rb
   have n1:its.size = ds.length:=by simpa using h2.length
   have n2:its'.size = es.length:=by simpa using k2.length
   have he:∀ j (j1:j < its.size) (j2:j < its'.size),EqAt X.A.in1 s its[j] its'[j] (pairD ds es j):=fun j j1 j2=>by
    have q:=eqAt_DL ds es X.A.in1 s its.toList its'.toList h2 k2 (by show X.A.units+1+_ < _;unfold dep at hd;omega) j (by simpa using j1) (by simpa using j2)
    simpa using q
   refine eq_tupleAt h1 k1 (by omega) he (fin _ ?_)
   unfold eqD
   rw [n1,n2]
   exact eqDs_both ds es
theorem op_neD (hu:X.A.units+200 < cLine):OpR X (compareOp .NotEq) (fun x y H Q=>∃ F a b,RelB X.K H F a x∧RelB X.K H F b y∧depOk a b = true∧Q (.bl (!eqD a b)) H):=by
 intro pins s σ H x y v u Q I rx ry h
 obtain ⟨F,a,b,ha,hb,hk,q⟩:=h
 unfold depOk at hk
 rw [Bool.and_eq_true,Bool.and_eq_true] at hk
 obtain ⟨⟨hk,hd⟩,hm⟩:=hk
 replace hd:=of_decide_eq_true hd
 replace hm:=of_decide_eq_true hm
 have ra:=rdB_of I ha rx (by omega)
 have rb:=rdB_of I hb ry (by omega)
 have fin:∀ k:Bool,k = (!eqD a b)→EP X pins σ Q (.bool k) s:=fun k e=>⟨.bl k,H,I,rfl,by rw [e];exact q⟩
 cases a<;>cases b<;>first
  | (exact absurd (show false = true from hk) Bool.false_ne_true)
  | skip
 · unfold RdV at ra rb;subst ra;subst rb
   exact RcNeAt.bool_bool _ _ _ _ _ _ (fin _ (by unfold eqD;rfl))
 · unfold RdV at ra rb;obtain ⟨t,rfl⟩:=ra;obtain ⟨t',rfl⟩:=rb
   exact RcNeAt.int_int _ _ _ _ _ _ _ _ (fin _ (by unfold eqD;rfl))
 · unfold RdV at ra rb;obtain ⟨t,rfl⟩:=ra;obtain ⟨t',rfl⟩:=rb
   exact RcNeAt.str_str _ _ _ _ _ _ _ _ (fin _ (by unfold eqD;rfl))
 · rename_i ds es
   unfold RdV at ra rb;obtain ⟨l,its,rfl,h1,h2⟩:=ra;obtain ⟨l',its',rfl,k1,k2⟩:=rb
   have n1:its.size = ds.length:=by simpa using h2.length
   have n2:its'.size = es.length:=by simpa using k2.length
   have he:∀ j (j1:j < its.size) (j2:j < its'.size),EqAt X.A.in1 s its[j] its'[j] (pairD ds es j):=fun j j1 j2=>by
    have q:=eqAt_DL ds es X.A.in1 s its.toList its'.toList h2 k2 (by show X.A.units+1+_ < _;unfold dep at hd;omega) j (by simpa using j1) (by simpa using j2)
    simpa using q
   by_cases hsz:its.size = its'.size
   · refine RcNeAt.lists h1 k1 hsz (by omega) he _ _ _ _ (fin _ ?_)
     unfold eqD
     rw [n1,eqDs_len (by omega)]
   · refine RcNeAt.lists_lengths h1 k1 (by simpa using hsz) (by omega) _ _ _ _ (fin _ ?_)
     unfold eqD
     rw [eqDs_ne (by omega)]
     rfl
 · rename_i ds es
   unfold RdV at ra rb;obtain ⟨l,its,rfl,h1,h2⟩:=ra;obtain ⟨l',its',rfl,k1,k2⟩:=rb
   have n1:its.size = ds.length:=by simpa using h2.length
   have n2:its'.size = es.length:=by simpa using k2.length
   have he:∀ j (j1:j < its.size) (j2:j < its'.size),EqAt X.A.in1 s its[j] its'[j] (pairD ds es j):=fun j j1 j2=>by
    have q:=eqAt_DL ds es X.A.in1 s its.toList its'.toList h2 k2 (by show X.A.units+1+_ < _;unfold dep at hd;omega) j (by simpa using j1) (by simpa using j2)
    simpa using q
   refine RcNeAt.tuples h1 k1 (by omega) he _ _ _ _ (fin _ ?_)
   unfold eqD
   rw [n1,n2,eqDs_both ds es]
open Classical in
def isEq (h:Heap) (a:D) (u:Value):Bool:=if ∃ d,RdV h d u∧eqD d a = true then true else false
theorem isEq_of {h:Heap} {a d:D} {u:Value} (r:RdV h d u):isEq h a u = eqD d a:=by
 unfold isEq
 cases e:eqD d a with
 | true=>rw [if_pos ⟨d,r,e⟩]
 | false =>
   rw [if_neg]
   rintro ⟨d',r',e'⟩
   rw [RdV.inj d d' u r r',e'] at e
   cases e
theorem any_isEq {h:Heap} {a:D}:∀ {ds:List D} {us:List Value},RdL h ds us→us.any (isEq h a) = ds.any fun d=>eqD d a
 | [],us,r=>by unfold RdL at r;subst r;rfl
 | d::ds,us,r=>by
   unfold RdL at r;obtain ⟨w,ws,rfl,h1,h2⟩:=r
   rw [List.any_cons,List.any_cons,isEq_of h1,any_isEq h2]
theorem mem_isEq {A:Around} {s:Shared} {a:D} {v:Value} (rv:RdV s.heap a v) (hu:A.units+dep a < cLine):∀ {ds:List D} {us:List Value},RdL s.heap ds us→∀ u∈us,EqAt A s u v (isEq s.heap a u)
 | [],us,r=>fun u hm=>by unfold RdL at r;subst r;cases hm
 | d::ds,us,r=>fun u hm=>by
   unfold RdL at r;obtain ⟨w,ws,rfl,h1,h2⟩:=r
   rcases List.mem_cons.mp hm with rfl | hm
   · rw [isEq_of h1]
     exact eqAt_D d a A s u v h1 rv (by omega)
   · exact mem_isEq rv hu h2 u hm
theorem op_inD (hu:X.A.units+200 < cLine):OpR X (compareOp .In) (fun x y H Q=>∃ F a ds,RelB X.K H F a x∧(RelB X.K H F (.lst ds) y∨RelB X.K H F (.tup ds) y)∧(dep a≤150∧depL ds < 99999)∧Q (.bl (ds.any fun d=>eqD d a)) H):=by
 intro pins s σ H x y v u Q I rx ry h
 obtain ⟨F,a,ds,ha,hb,⟨hd,hm⟩,q⟩:=h
 have ra:=rdB_of I ha rx (by omega)
 have fin:∀ k:Bool,k = (ds.any fun d=>eqD d a)→EP X pins σ Q (.bool k) s:=fun k e=>⟨.bl k,H,I,rfl,by rw [e];exact q⟩
 rcases hb with hb | hb
 · have rb:=rdB_of I hb ry (by unfold dep;omega)
   unfold RdV at rb;obtain ⟨l',its',rfl,k1,k2⟩:=rb
   refine in_listAt (isEq s.heap a) k1 (fun w hw=>mem_isEq ra (by show X.A.units+1+_ < _;omega) k2 w (by simpa using hw)) (fin _ ?_)
   rw [show its'.any (isEq s.heap a) = its'.toList.any (isEq s.heap a) by simp,any_isEq k2]
 · have rb:=rdB_of I hb ry (by unfold dep;omega)
   unfold RdV at rb;obtain ⟨l',its',rfl,k1,k2⟩:=rb
   refine in_tupleAt (isEq s.heap a) k1 (fun w hw=>mem_isEq ra (by show X.A.units+1+_ < _;omega) k2 w (by simpa using hw)) (fin _ ?_)
   rw [show its'.any (isEq s.heap a) = its'.toList.any (isEq s.heap a) by simp,any_isEq k2]
theorem op_notInD (hu:X.A.units+200 < cLine):OpR X (compareOp .NotIn) (fun x y H Q=>∃ F a ds,RelB X.K H F a x∧(RelB X.K H F (.lst ds) y∨RelB X.K H F (.tup ds) y)∧(dep a≤150∧depL ds < 99999)∧Q (.bl (!ds.any fun d=>eqD d a)) H):=by
 intro pins s σ H x y v u Q I rx ry h
 obtain ⟨F,a,ds,ha,hb,⟨hd,hm⟩,q⟩:=h
 have ra:=rdB_of I ha rx (by omega)
 have fin:∀ k:Bool,k = (!ds.any fun d=>eqD d a)→EP X pins σ Q (.bool k) s:=fun k e=>⟨.bl k,H,I,rfl,by rw [e];exact q⟩
 rcases hb with hb | hb
 · have rb:=rdB_of I hb ry (by unfold dep;omega)
   unfold RdV at rb;obtain ⟨l',its',rfl,k1,k2⟩:=rb
   refine notIn_listAt (isEq s.heap a) k1 (fun w hw=>mem_isEq ra (by show X.A.units+1+_ < _;omega) k2 w (by simpa using hw)) (fin _ ?_)
   rw [show its'.any (isEq s.heap a) = its'.toList.any (isEq s.heap a) by simp,any_isEq k2]
 · have rb:=rdB_of I hb ry (by unfold dep;omega)
   unfold RdV at rb;obtain ⟨l',its',rfl,k1,k2⟩:=rb
   refine notIn_tupleAt (isEq s.heap a) k1 (fun w hw=>mem_isEq ra (by show X.A.units+1+_ < _;omega) k2 w (by simpa using hw)) (fin _ ?_)
   rw [show its'.any (isEq s.heap a) = its'.toList.any (isEq s.heap a) by simp,any_isEq k2]
theorem preSum_get (ns:List Int):∀ j,preSum (fun i=>ns.getD i 0) j = (ns.take j).sum
 | 0=>by simp [preSum]
 | j+1=>by
   rw [preSum,preSum_get ns j,List.take_add_one,List.sum_append]
   cases e:ns[j]? with
   | none=>simp [e]
   | some v=>simp [e]
theorem vals_int {ns:List Int}:∀ {xs:List V} {us:List Value},xs = ns.map V.int→Vals xs us→∀ i v,us[i]? = some v→∃ t,v = Value.int (ns.getD i 0) t:=by
 induction ns with
 | nil=>intro xs us e r i v h;subst e;cases r;simp at h
 | cons n ns ih =>
   intro xs us e r i v h
   subst e
   cases r with
   | cons r1 r2 =>
     cases i with
     | zero=>simp at h;subst h;obtain ⟨t,e⟩:=r1;exact ⟨t,by simpa using e⟩
     | succ i =>
       obtain ⟨t,e⟩:=ih rfl r2 i v (by simpa using h)
       exact ⟨t,by simpa using e⟩
theorem vals_bl {ns:List Bool}:∀ {xs:List V} {us:List Value},xs = ns.map V.bl→Vals xs us→∀ i v,us[i]? = some v→v = Value.bool (ns.getD i false):=by
 induction ns with
 | nil=>intro xs us e r i v h;subst e;cases r;simp at h
 | cons n ns ih =>
   intro xs us e r i v h
   subst e
   cases r with
   | cons r1 r2 =>
     cases i with
     | zero=>simp at h;subst h;have e:_ = Value.bool n:=r1;simpa using e
     | succ i=>simpa using ih rfl r2 i v (by simpa using h)
theorem range_anyB (bs:List Bool):((List.range bs.length).any fun i=>bs.getD i false) = bs.any id:=by
 rw [Bool.eq_iff_iff,List.any_eq_true,List.any_eq_true]
 constructor
 · rintro ⟨i,hi,e⟩
   have hi':=List.mem_range.mp hi
   refine ⟨bs[i],List.getElem_mem hi',?_⟩
   simpa [List.getD,List.getElem?_eq_getElem hi'] using e
 · rintro ⟨b,hb,e⟩
   obtain ⟨i,hi,rfl⟩:=List.getElem_of_mem hb
   exact ⟨i,List.mem_range.mpr hi,by simpa [List.getD,List.getElem?_eq_getElem hi] using e⟩
theorem call_anyL (hc:X.calm = true):CallR X (.builtin "any") (fun xs H Q=>∃ (p:Addr) (ns:List Bool),xs = [.ref p]∧SqL X.K H p (ns.map V.bl)∧Q (.bl (ns.any id)) H):=by
 intro pins s σ H xs us Q I r h
 obtain ⟨p,ns,rfl,hq,q⟩:=h
 obtain ⟨u,rfl,rx⟩:=vals1 r
 cases rx
 obtain ⟨its,rv,pl,hz⟩:=I.list hq
 have hlt:p < s.heap.objs.size:=by obtain ⟨o,e,_⟩:=pl.isList;exact Heap.lt_size e
 refine call_any_walk (wpAny_pyIter_list pl.isList ?_)
 refine ⟨s.heap.objs.size,[s.heap.objs.size,p],[s.heap.objs.size],its.toArray.size,_,_,fun i=>ns.getD i false,rfl,Walks.list (A:=X.A.in1) (I.ok.hd hc) s.heap.objs.size p (Nat.ne_of_lt hlt) its.toArray,
  ⟨⟨_,Heap.get?_push_size _ rfl,rfl,rfl⟩,?_⟩,fun i v s' Q' E' hP hQ=>?_,fun h' tk hk=>?_⟩
 · obtain ⟨o,e,r⟩:=pl.isList
   exact ⟨o,Heap.get?_push_of_some _ e,r⟩
 · rw [vals_bl rfl rv i v (by simpa using hP)]
   exact wpAny_truthy_bool hQ
 · have e:its.toArray.size = ns.length:=by rw [List.size_toArray,← rv.length,List.length_map]
   rw [e,range_anyB]
   exact ⟨.bl (ns.any id),H,I.kept (h':=h') (t':=tk) (fun b o e=>hk b o (by simp;exact Nat.ne_of_lt (Heap.lt_size e)) (Heap.get?_push_of_some _ e)),rfl,q⟩
theorem call_sumL (hc:X.calm = true):CallR X (.builtin "sum") (fun xs H Q=>∃ (p:Addr) (ns:List Int),xs = [.ref p]∧SqL X.K H p (ns.map V.int)∧Q (.int ns.sum) H):=by
 intro pins s σ H xs us Q I r h
 obtain ⟨p,ns,rfl,hq,q⟩:=h
 obtain ⟨u,rfl,rx⟩:=vals1 r
 cases rx
 obtain ⟨its,rv,pl,hz⟩:=I.list hq
 have hlt:p < s.heap.objs.size:=by obtain ⟨o,e,_⟩:=pl.isList;exact Heap.lt_size e
 refine call_sum_walkG (wpAny_pyIter_list pl.isList ?_)
 refine ⟨s.heap.objs.size,[s.heap.objs.size,p],[s.heap.objs.size],its.toArray.size,_,_,fun i=>ns.getD i 0,rfl,Walks.list (A:=X.A.in1) (I.ok.hd hc) s.heap.objs.size p (Nat.ne_of_lt hlt) its.toArray,
  ⟨⟨_,Heap.get?_push_size _ rfl,rfl,rfl⟩,?_⟩,fun b hb=>?_,fun i v e=>?_,fun h' tk t' hk=>?_⟩
 · obtain ⟨o,e,r⟩:=pl.isList
   exact ⟨o,Heap.get?_push_of_some _ e,r⟩
 · have:b = s.heap.objs.size∨b = p:=by simpa using hb
   show b < (s.heap.push _).objs.size
   rw [Heap.size_push]
   rcases this with rfl | rfl
   · exact Nat.lt_succ_self _
   · exact Nat.lt_succ_of_lt hlt
 · exact vals_int rfl rv i v (by simpa using e)
 · refine ⟨.int ns.sum,H,I.kept (h':=h') (t':=tk) fun b o e=>?_,⟨t',?_⟩,q⟩
   · exact hk b o (by simp;exact Nat.ne_of_lt (Heap.lt_size e)) (Heap.get?_push_of_some _ e)
   · rw [preSum_get]
     have e:its.toArray.size = ns.length:=by rw [List.size_toArray,← rv.length,List.length_map]
     rw [e,List.take_length]
theorem topI_snoc {ns:List Int} {v:Int} (h:ns≠[]):topI (ns++[v]) = if v > topI ns then v else topI ns:=by
 cases ns with
 | nil=>exact absurd rfl h
 | cons n ns =>
   show (ns++[v]).foldl _ n = _
   rw [List.foldl_append]
   rfl
theorem best_top (ns:List Int):∀ k,k < ns.length→ns.getD (argBest (fun i j=>decide (ns.getD i 0 > ns.getD j 0)) k) 0 = topI (ns.take (k+1))
 | 0,h=>by
   cases ns with
   | nil=>cases h
   | cons n ns=>simp [argBest,topI]
 | k+1,h=>by
   have ih:=best_top ns k (by omega)
   have e:ns[k+1]? = some (ns.getD (k+1) 0):=by rw [List.getD_eq_getElem?_getD,List.getElem?_eq_getElem h];rfl
   have e2:ns.take (k+1+1) = ns.take (k+1)++[ns.getD (k+1) 0]:=by rw [List.take_add_one,e];rfl
   rw [e2,topI_snoc (by cases ns with
    | nil=>cases h
    | cons _ _=>simp),← ih]
   show ns.getD (if decide (ns.getD (k+1) 0 > ns.getD (argBest (fun i j=>decide (ns.getD i 0 > ns.getD j 0)) k) 0) = true then k+1 else argBest (fun i j=>decide (ns.getD i 0 > ns.getD j 0)) k) 0 = _
   by_cases hb:ns.getD (k+1) 0 > ns.getD (argBest (fun i j=>decide (ns.getD i 0 > ns.getD j 0)) k) 0
   · rw [if_pos (decide_eq_true hb),if_pos hb]
   · rw [if_neg (by simpa using hb),if_neg hb]
theorem call_maxL (hc:X.calm = true):CallR X (.builtin "max") (fun xs H Q=>∃ (p:Addr) (ns:List Int),xs = [.ref p]∧ns≠[]∧SqL X.K H p (ns.map V.int)∧Q (.int (topI ns)) H):=by
 intro pins s σ H xs us Q I r h
 obtain ⟨p,ns,rfl,hne,hq,q⟩:=h
 obtain ⟨u,rfl,rx⟩:=vals1 r
 cases rx
 obtain ⟨its,rv,pl,hz⟩:=I.list hq
 have hlt:p < s.heap.objs.size:=by obtain ⟨o,e,_⟩:=pl.isList;exact Heap.lt_size e
 have hlen:its.toArray.size = ns.length:=by rw [List.size_toArray,← rv.length,List.length_map]
 have hpos:0 < ns.length:=List.length_pos_iff.mpr hne
 have hval:∀ i v,its.toArray[i]? = some v→∃ t,v = Value.int (ns.getD i 0) t:=fun i v e=>vals_int rfl rv i v (by simpa using e)
 refine call_max_walk (wpAny_pyIter_list pl.isList ?_)
 refine ⟨s.heap.objs.size,[s.heap.objs.size,p],[s.heap.objs.size],its.toArray.size,_,_,fun i j=>decide (ns.getD i 0 > ns.getD j 0),rfl,Walks.list (A:=X.A.in1) (I.ok.hd hc) s.heap.objs.size p (Nat.ne_of_lt hlt) its.toArray,
  ⟨⟨_,Heap.get?_push_size _ rfl,rfl,rfl⟩,?_⟩,fun b hb=>?_,by rw [hlen];exact hpos,CmpOf.ints_gt (fun i=>ns.getD i 0) hval,fun v h' tk hv hk=>?_⟩
 · obtain ⟨o,e,r⟩:=pl.isList
   exact ⟨o,Heap.get?_push_of_some _ e,r⟩
 · have:b = s.heap.objs.size∨b = p:=by simpa using hb
   show b < (s.heap.push _).objs.size
   rw [Heap.size_push]
   rcases this with rfl | rfl
   · exact Nat.lt_succ_self _
   · exact Nat.lt_succ_of_lt hlt
 · refine ⟨.int (topI ns),H,I.kept (h':=h') (t':=tk) fun b o e=>?_,?_,q⟩
   · exact hk b o (by simp;exact Nat.ne_of_lt (Heap.lt_size e)) (Heap.get?_push_of_some _ e)
   · obtain ⟨t,rfl⟩:=hval _ _ hv
     refine ⟨t,?_⟩
     rw [best_top ns _ (by omega),hlen,show ns.length - 1+1 = ns.length by omega,List.take_length]
theorem cat_tup0 {prog:Program} {w:World} {A:Around} {E:Value→Shared→Prop} {s:Shared} {t b:Addr} {ws:List Value} {Q:Value→Shared→Prop} (ht:IsTup s.heap t ([]:List Value).toArray) (hb:IsTup s.heap b ws.toArray) (h:Q (.ref b) s):wpAny (model prog w) A (binaryOp .Add (.ref t) (.ref b)) Q E s:=by
 obtain ⟨⟨cls,dd,data,sl⟩,ho,hc,n,hd⟩:=id ht
 obtain ⟨⟨cls2,dd2,data2,sl2⟩,ho2,hc2,n2,hd2⟩:=id hb
 simp only at hc hd hc2 hd2
 subst hc hd hc2 hd2
 exact concat_meets ⟨_,ho,rfl⟩ ⟨_,ho2,rfl⟩ noFill_tuple_add seq_tuple_add PySem.F.slot_tuple_add PySem.F.entry_tuple_add (PySem.F.args_tuple_add_2 _ _) (tuple_addW0 t b _ ws.toArray n n2 dd dd2 sl sl2 rfl) ⟨ho,ho2,h⟩
theorem op_catE:OpR X (binaryOp .Add) (fun x y H Q=>∃ a b ys,x = .ref a∧y = .ref b∧SqT X.K H a []∧SqT X.K H b ys∧Q (.ref b) H):=by
 intro pins s σ H x y v u Q I rx ry h
 obtain ⟨a,b,ys,rfl,rfl,ha,hb,q⟩:=h
 cases rx
 cases ry
 obtain ⟨its,r1,p1,_⟩:=I.tuple ha
 obtain ⟨its2,r2,p2,_⟩:=I.tuple hb
 cases r1
 exact cat_tup0 p1 p2 ⟨.ref b,H,I,rfl,q⟩
def tyName:Blt→Option String
 | .isTup=>some "tuple"
 | _=>none
theorem isl_of {pins:List (Addr × Obj)} {σ:L2.St} {H:Hp} {s:Shared} {F:Addr→Prop} (I:Inv X pins σ H s) {ds:List D} {v:V} {u:Value} (h:RelB X.K H F (.lst ds) v) (r:RelV v u):∃ l its,u = .ref l∧s.heap.IsList l its:=by
 rcases h with h | ⟨a,xs,_,_,rfl,h1,_⟩
 · unfold Rel at h
   obtain ⟨a,xs,rfl,h1,_⟩:=h
   obtain ⟨its,_,p,_⟩:=I.list h1.sq
   exact ⟨a,_,r,p.isList⟩
 · obtain ⟨its,_,p,_⟩:=I.list (.inl (.inl h1))
   exact ⟨a,_,r,p.isList⟩
theorem ist_of {pins:List (Addr × Obj)} {σ:L2.St} {H:Hp} {s:Shared} {F:Addr→Prop} (I:Inv X pins σ H s) {ds:List D} {v:V} {u:Value} (h:RelB X.K H F (.tup ds) v) (r:RelV v u):∃ l its,u = .ref l∧s.heap.IsTuple l its:=by
 rcases h with h | ⟨a,xs,_,e,_⟩
 · unfold Rel at h
   obtain ⟨a,xs,rfl,h1,_⟩:=h
   obtain ⟨its,_,p,_⟩:=I.tuple h1
   exact ⟨a,_,r,p⟩
 · cases e
theorem call_isD {f:Blt} {T:String} (hT:tyName f = some T):CallR X (.builtin "isinstance") (fun xs H Q=>∃ F d x b,RelB X.K H F d x∧xs = [x,.ty T]∧bltD f [d] = some (.bl b)∧Q (.bl b) H):=by
 intro pins s σ H xs us Q I r h
 obtain ⟨F,d,x,b,hr,rfl,hb,q⟩:=h
 obtain ⟨u,w',rfl,ru,rw'⟩:=vals2 r
 cases (show w' = Value.type T from rw')
 have fin:∀ tk,EP X pins σ Q (.bool b) { s with toks:=tk }:=fun tk=>⟨.bl b,H,I.tok tk,rfl,q⟩
 cases d with
 | non=>have rd:=rdB_of I hr ru (by unfold dep;omega);unfold RdV at rd;subst rd;cases f<;>simp [tyName] at hT<;>subst hT<;>simp [bltD,isTupD] at hb<;>subst hb<;>exact PySem.W.kia_one PySem.W.kitx_none I.kIn True.intro rfl (fun z=>nomatch z) fin
 | bl y=>have rd:=rdB_of I hr ru (by unfold dep;omega);unfold RdV at rd;subst rd;cases f<;>simp [tyName] at hT<;>subst hT<;>simp [bltD,isTupD] at hb<;>subst hb<;>exact PySem.W.kia_one PySem.W.kitx_bool I.kIn True.intro rfl (fun z=>nomatch z) fin
 | int y=>have rd:=rdB_of I hr ru (by unfold dep;omega);unfold RdV at rd;obtain ⟨t,rfl⟩:=rd;cases f<;>simp [tyName] at hT<;>subst hT<;>simp [bltD,isTupD] at hb<;>subst hb<;>exact PySem.W.kia_one PySem.W.kitx_int I.kIn True.intro rfl (fun z=>nomatch z) fin
 | str y=>have rd:=rdB_of I hr ru (by unfold dep;omega);unfold RdV at rd;obtain ⟨t,rfl⟩:=rd;cases f<;>simp [tyName] at hT<;>subst hT<;>simp [bltD,isTupD] at hb<;>subst hb<;>exact PySem.W.kia_one PySem.W.kitx_str I.kIn True.intro rfl (fun z=>nomatch z) fin
 | lst y =>
   obtain ⟨l,its,rfl,⟨o,h1,h2,_⟩⟩:=isl_of I hr ru
   cases f<;>simp [tyName] at hT<;>subst hT<;>simp [bltD,isTupD] at hb<;>subst hb<;>exact PySem.W.kia_one PySem.W.kitx_list I.kIn ⟨o,h1,h2⟩ rfl (fun z=>nomatch z) fin
 | tup y =>
   obtain ⟨l,its,rfl,⟨o,h1,h2,_⟩⟩:=ist_of I hr ru
   cases f<;>simp [tyName] at hT<;>subst hT<;>simp [bltD,isTupD] at hb<;>subst hb<;>exact PySem.W.kia_one PySem.W.kitx_tuple I.kIn ⟨o,h1,h2⟩ rfl (fun z=>nomatch z) fin
 | fn _ _=>cases f<;>simp [tyName] at hT<;>simp [bltD,isTupD] at hb
 | dct _ _=>cases f<;>simp [tyName] at hT<;>simp [bltD,isTupD] at hb
def Its (x:Str):L2.It:=⟨fun i _=>i < x.cps.size,fun i H v H'=>H' = H∧∃ c,x.cps[i]? = some c∧v = .str ⟨#[c]⟩,fun i _=>i = x.cps.size⟩
theorem turn_walks {P:Program} {w:World} {K:PySem.W.Frag} {tg:Expr} {it:Addr} {n:Nat} {PV:Nat→Value→Prop} {St:Nat→Heap→Prop} {J:L2.It} {ty:String}
 (W:∀ A:Around,A.handled = none→Walks P w A it [it] [it] n PV St) (hst:∀ i h,St i h→∃ (o:Obj) (vs:Array Value),h.get? it = some o∧o.cls = .type ty∧o.data = .fields vs)
 (hn:["enumerate","zip","dict_itemiterator","dict_reverseitemiterator","odict_iterator","itertools.zip_longest","itertools.pairwise"].contains ty = false)
 (go:∀ i H,J.go i H→i < n) (stop:∀ i H,J.stop i H→i = n) (yld:∀ i v H,PV i v→∃ x,RelV x v∧J.yld i H x H)
 (self:∀ (A:Around) (i:Nat) (s:Shared) (Q:Value→Shared→Prop) (E:Value→Shared→Prop),St i s.heap→Q (.ref it) s→wpAny (model P w) A (pyIter (.ref it)) Q E s) :
 Turn P w K tg J [it] it St where
 mem:=by simp
 obj:=fun i h st b hb=>by
  have e:b = it:=by simpa using hb
  subst e
  obtain ⟨o,vs,e,c,d⟩:=hst i h st
  exact ⟨o,e,fun v z=>by rw [d] at z;cases z⟩
 keep:=fun i h h' st k=>(W { } rfl).frame i h h' st k
 item:=by
  intro X hP hw hK hc i pins s σ H E I hf st hg
  subst hP hw hK
  obtain ⟨f0,f1,f2,f3,f4,f5⟩:=hf it (by simp)
  refine (W X.A (I.ok.hd hc)).item i s _ _ (go i H hg) st fun v h' tk hv st' kk=>?_
  have I1:Inv X pins σ H { s with heap:=h',toks:=tk }:=I.turned (fun b o hb e=>kk b o (by simpa using hb) e) f0 f1 f3 f4 f5
  obtain ⟨o,vs,e,c,d⟩:=hst _ _ st'
  obtain ⟨x,r,y⟩:=yld i v H hv
  exact ⟨v,rfl,go_of (s:={ s with heap:=h',toks:=tk }) e c d hn ⟨x,H,I1,r,y,st',fun b hb=>(hf b hb).1⟩⟩
 done:=by
  intro X hP hw hK hc i pins s σ H E I hf st hg
  subst hP hw hK
  obtain ⟨f0,f1,f2,f3,f4,f5⟩:=hf it (by simp)
  have e:=stop i H hg
  subst e
  exact (W X.A (I.ok.hd hc)).done s _ _ st fun h' tk kk=>⟨rfl,I.turned (fun b o hb e=>kk b o (by simpa using hb) e) f0 f1 f3 f4 f5⟩
 self:=self
theorem turn_str {P:Program} {w:World} {K:PySem.W.Frag} {tg:Expr} (it:Addr) (x:Str) (t:Tok):Turn P w K tg (Its x) [it] it (fun i h=>h.IsStrIter it (strIterType x) x t i):=by
 unfold strIterType
 split
 · exact turn_walks (ty:="str_ascii_iterator") (fun A hA=>Walks.strAscii hA it x t) (fun i h ⟨o,e,c,d⟩=>⟨o,_,e,c,d⟩) (by decide) (fun i H z=>z) (fun i H z=>z) (fun i v H ⟨c,u,h1,h2⟩=>⟨.str ⟨#[c]⟩,⟨u,h2⟩,rfl,c,h1,rfl⟩) fun _ _ _ _ _ st h=>wpAny_pyIter_striter_ascii st h
 · exact turn_walks (ty:="str_iterator") (fun A hA=>Walks.strWide hA it x t) (fun i h ⟨o,e,c,d⟩=>⟨o,_,e,c,d⟩) (by decide) (fun i H z=>z) (fun i H z=>z) (fun i v H ⟨c,u,h1,h2⟩=>⟨.str ⟨#[c]⟩,⟨u,h2⟩,rfl,c,h1,rfl⟩) fun _ _ _ _ _ st h=>wpAny_pyIter_striter_wide st h
end
end PP
end
section
namespace PP
open PySem L2 PyProof.Rows PySem.SeqAt PySem.Calls
section
variable {prog:Program} {w:World} {A:Around} {R:Result→Shared→Prop} {I:Addr} {fp wr:List Addr} {n:Nat} {P:Nat→Value→Prop} {St:Nat→Heap→Prop}
end
variable {X:Cx} [Tbs]
end PP
end
section
namespace PP
open PySem L2 PySem.SeqAt PyProof.Rows PySem.W
open AutoSeq1 (wpAny_loadPart')
open MeetsSeq MeetsSeq2 MeetsSeq3 SeqRoads2
variable [Tbs]
def LtAt (A:Around) (s:Shared) (u v:Value) (b:Bool):Prop:=∀ (prog:Program) (w:World) (E:Value→Shared→Prop) (Q:Value→Shared→Prop),Q (.bool b) s→wpAny (model prog w) A (richCompare .Lt u v) Q E s
def LexAt (A:Around) (s:Shared) (last:Bool):List (Value × Value)→Bool→Prop
 | [],b=>b = last
 | (p,q)::r,b=>∃ e,EqAt A s p q e∧if e = true then LexAt A s last r b else LtAt A s p q b
theorem tuple_ltAt (l m:Addr) (xs ys:Array Value) (n n2:Nat) (dd dd2:Option Addr) (sl sl2:Array (Option Value)) (b:Bool) :
 Meets (Builtin.«tuple.__lt__» ⟨[.ref l,.ref m],[]⟩)
  (fun A R s=>s.heap.get? l = some ⟨.type "tuple",dd,.seq xs n,sl⟩∧s.heap.get? m = some ⟨.type "tuple",dd2,.seq ys n2,sl2⟩ ∧
    LexAt A.in1 s (decide (xs.size < ys.size)) (xs.toList.zip ys.toList) b∧R (.ok (.ret (.bool b))) s) :=
 .of_wp fun prog w A R s h=>by
  obtain ⟨h0,g0,d0,t0,o0⟩:=s
  obtain ⟨hx,hy,hlex,hR⟩:=h
  have sub:=AutoSeq1.sub_tuple_tuple
  wp_walk using wpAny_loadPart' hx,wpAny_loadPart' hy,wpAny_forIn_list _ (fun rest st s'=>st.1 = none∧s' = ⟨h0,g0,d0,t0,o0⟩∧LexAt A.in1 ⟨h0,g0,d0,t0,o0⟩ (decide (xs.size < ys.size)) rest b) _
  case turn =>
   rintro ⟨y,x⟩ rest st s' ⟨hst,rfl,e,he,hr⟩
   refine wpAny_bind (he prog w _ _ ?_)
   cases e with
   | true =>
     rw [if_pos rfl] at hr
     wp_walk
     exact ⟨rfl,rfl,hr⟩
   | false =>
     rw [if_neg Bool.false_ne_true] at hr
     have hr':∀ {Q:Value→Shared→Prop} {E:Value→Shared→Prop},Q (.bool b) ⟨h0,g0,d0,t0,o0⟩→wpAny (model prog w) A.in1 (richCompare .Lt y x) Q E ⟨h0,g0,d0,t0,o0⟩:=fun {Q E} h=>hr prog w E Q h
     wp_walk using hr'
     exact ⟨_,rfl,hR⟩
  case fin =>
   rintro ⟨b1,b2⟩ s' ⟨hst,rfl,hl⟩
   simp only at hst
   subst hst
   have hl:b = decide (xs.size < ys.size):=hl
   wp_walk
   refine ⟨_,rfl,?_⟩
   have:Builtin.Tuple.tupleCompareSizes .Lt xs.size ys.size = .bool b:=by rw [hl];rfl
   rw [this]
   exact hR
  case h=>exact ⟨rfl,rfl,hlex⟩
theorem LtAt.tuples {A:Around} {s:Shared} {l m:Addr} {xs ys:Array Value} {b:Bool} (hx:s.heap.IsTuple l xs) (hy:s.heap.IsTuple m ys) (hu:A.units < cLine) (h:LexAt A.in1 s (decide (xs.size < ys.size)) (xs.toList.zip ys.toList) b):LtAt A s (.ref l) (.ref m) b:=by
 intro prog w E Q q
 obtain ⟨⟨c1,d1,t1,s1⟩,e1,k1,n1,f1⟩:=hx
 obtain ⟨⟨c2,d2,t2,s2⟩,e2,k2,n2,f2⟩:=hy
 have k1:c1 = _:=k1
 have f1:t1 = _:=f1
 have k2:c2 = _:=k2
 have f2:t2 = _:=f2
 subst k1 f1 k2 f2
 have nn:Value.bool b≠Value.notImplemented:=fun z=>nomatch z
 exact richCompare_meets_room (op:=.Lt) ⟨_,e1,rfl⟩ ⟨_,e2,rfl⟩ F.slot_tuple_lt F.entry_tuple_lt (F.args_tuple_lt_2 _ _) (tuple_ltAt l m xs ys n1 n2 d1 d2 s1 s2 b) ⟨e1,e2,h,(show Value.bool b≠Value.notImplemented∧Q (.bool b) s from ⟨nn,q⟩)⟩ hu
mutual
theorem ltAt_D:∀ (a b:D) (A:Around) (s:Shared) (u v:Value) (k:Bool),RdV s.heap a u→RdV s.heap b v→A.units+min (dep a) (dep b)+1 < cLine→ltD a b = some k→LtAt A s u v k
 | .int a,b,A,s,u,v,k,ra,rb,hu,h=>by
   cases b with
   | int b =>
     unfold ltD at h
     cases h
     unfold RdV at ra rb
     obtain ⟨t,rfl⟩:=ra
     obtain ⟨t',rfl⟩:=rb
     intro prog w E Q q
     exact lt_int q
   | _=>unfold ltD at h;cases h
 | .str a,b,A,s,u,v,k,ra,rb,hu,h=>by
   cases b with
   | str b =>
     unfold ltD at h
     cases h
     unfold RdV at ra rb
     obtain ⟨t,rfl⟩:=ra
     obtain ⟨t',rfl⟩:=rb
     intro prog w E Q q
     exact lt_str q
   | _=>unfold ltD at h;cases h
 | .tup a,b,A,s,u,v,k,ra,rb,hu,h=>by
   cases b with
   | tup b =>
     unfold ltD at h
     unfold RdV at ra rb
     obtain ⟨l,xs,rfl,h1,h2⟩:=ra
     obtain ⟨m,ys,rfl,k1,k2⟩:=rb
     have n1:xs.size = a.length:=by simpa using h2.length
     have n2:ys.size = b.length:=by simpa using k2.length
     refine LtAt.tuples h1 k1 (by omega) ?_
     rw [n1,n2]
     unfold dep at hu
     exact lexAt_DL a b A.in1 s xs.toList ys.toList k h2 k2 (by show A.units+1+_+1 < _;omega) h
   | _=>unfold ltD at h;cases h
 | .non,b,A,s,u,v,k,ra,rb,hu,h=>by cases b<;>(unfold ltD at h;cases h)
 | .bl x,b,A,s,u,v,k,ra,rb,hu,h=>by cases b<;>(unfold ltD at h;cases h)
 | .lst x,b,A,s,u,v,k,ra,rb,hu,h=>by cases b<;>(unfold ltD at h;cases h)
 | .fn x y,b,A,s,u,v,k,ra,rb,hu,h=>by cases b<;>(unfold ltD at h;cases h)
 | .dct x y,b,A,s,u,v,k,ra,rb,hu,h=>by cases b<;>(unfold ltD at h;cases h)
theorem lexAt_DL:∀ (as bs:List D) (A:Around) (s:Shared) (us vs:List Value) (k:Bool),RdL s.heap as us→RdL s.heap bs vs→A.units+min (depL as) (depL bs)+1 < cLine→ltDs as bs = some k→LexAt A s (decide (as.length < bs.length)) (us.zip vs) k
 | [],[],A,s,us,vs,k,ra,rb,hu,h=>by
   unfold RdL at ra rb
   subst ra;subst rb
   unfold ltDs at h
   cases h
   rfl
 | [],y::ys,A,s,us,vs,k,ra,rb,hu,h=>by
   unfold RdL at ra
   subst ra
   unfold ltDs at h
   cases h
   show true = decide _
   simp
 | x::xs,[],A,s,us,vs,k,ra,rb,hu,h=>by
   unfold RdL at rb
   subst rb
   unfold ltDs at h
   cases h
   rw [List.zip_nil_right]
   show false = decide _
   simp
 | x::xs,y::ys,A,s,us,vs,k,ra,rb,hu,h=>by
   unfold RdL at ra rb
   obtain ⟨u,us',rfl,ra1,ra2⟩:=ra
   obtain ⟨v,vs',rfl,rb1,rb2⟩:=rb
   unfold ltDs at h
   unfold depL at hu
   refine ⟨eqD x y,eqAt_D x y A s u v ra1 rb1 (by omega),?_⟩
   cases e:eqD x y with
   | true =>
     rw [e,if_pos rfl] at h
     rw [if_pos rfl]
     have:=lexAt_DL xs ys A s us' vs' k ra2 rb2 (by omega) h
     have e1:decide ((x::xs).length < (y::ys).length) = decide (xs.length < ys.length):=by simp
     rw [e1]
     exact this
   | false =>
     rw [e,if_neg Bool.false_ne_true] at h
     rw [if_neg Bool.false_ne_true]
     exact ltAt_D x y A s u v k ra1 rb1 (by omega) h
end
theorem op_ltD {X:Cx} (hu:X.A.units+200 < cLine):OpR X (compareOp .Lt) (fun x y H Q=>∃ F a b k,RelB X.K H F a x∧RelB X.K H F b y∧ltOk a b = some k∧Q (.bl k) H):=by
 intro pins s σ H x y v u Q I rx ry h
 obtain ⟨F,a,b,k,ha,hb,e,q⟩:=h
 unfold ltOk at e
 split at e
 · exact ltAt_D a b X.A s v u k (rdB_of I ha rx (by omega)) (rdB_of I hb ry (by omega)) (by omega) e X.prog X.w X.xe _ ⟨.bl k,H,I,rfl,q⟩
 · cases e
theorem op_catR {X:Cx}:OpR X (binaryOp .Add) (fun x y H Q=>∃ l b xs zs,x = .ref l∧y = .ref b∧LsB X.K H l xs∧LsB X.K H b zs∧xs.length+zs.length≤sizeLine∧∀ p,H p = none→Q (.ref p) (upd H p (.lst (xs++zs)))):=by
 intro pins s σ H x y v u Q I rx ry h
 obtain ⟨l,b,xs,zs,rfl,rfl,h1,h2,hz,q⟩:=h
 cases rx
 cases ry
 obtain ⟨i1,n1,r1,e1,z1⟩:=h1.obj I
 obtain ⟨i2,n2,r2,e2,z2⟩:=h2.obj I
 have l1:=r1.length
 have l2:=r2.length
 refine PySem.P.add_list e1 e2 ?_ (by simp only [List.size_toArray];omega)
 rw [show i1.toArray++i2.toArray = (i1++i2).toArray by simp]
 exact ⟨.ref _,_,I.lnew (t':=s.toks) (r1.append r2) (by rw [List.length_append];omega),rfl,q _ I.fresh⟩
end PP
end
section
namespace PP
open PySem PySem.W PyProof.Rows
def inR {α:Type} (lt:Nat→Nat→Bool) (n:Nat):KasT α→Prop
 | .ret _=>True
 | .ask i j k=>i < n∧j < n∧inR lt n (k (lt i j))
theorem inR_bind {α β:Type} {lt:Nat→Nat→Bool} {n:Nat} {f:α→KasT β}:∀ {t:KasT α},inR lt n t→inR lt n (f (ans lt t))→inR lt n (t.bind f)
 | .ret a,_,h=>h
 | .ask i j k,⟨h1,h2,h3⟩,h=>⟨h1,h2,inR_bind h3 h⟩
theorem inR_if {α:Type} {lt:Nat→Nat→Bool} {n:Nat} {c:Prop} [Decidable c] {a b:KasT α} (h1:inR lt n a) (h2:inR lt n b):inR lt n (if c then a else b):=by
 by_cases h:c
 · rw [if_pos h];exact h1
 · rw [if_neg h];exact h2
def All (p:Array Nat) (n:Nat):Prop:=0 < n∧∀ x∈p,x < n
theorem All.at {p:Array Nat} {n:Nat} (h:All p n) (k:Nat):p.getD k 0 < n:=by
 rw [getD_eq]
 cases e:p[k]? with
 | none=>exact h.1
 | some x=>exact h.2 x (Array.mem_of_getElem? e)
theorem All.perm {p q:Array Nat} {n:Nat} (h:All p n) (e:q.Perm p):All q n:=⟨h.1,fun x hx=>h.2 x (e.mem_iff.mp hx)⟩
section
variable {lt:Nat→Nat→Bool} {n:Nat}
theorem asc_in {p:Array Nat} (h:All p n):∀ f k,inR lt n (kas_asc p f k)
 | 0,k=>trivial
 | f+1,k=>⟨h.at _,h.at _,inR_if trivial (asc_in h f (k+1))⟩
theorem desc_in:∀ (f:Nat) (p:Array Nat) (k q:Nat),All p n→inR lt n (kas_desc f p k q)∧All (ans lt (kas_desc f p k q)).1 n
 | 0,p,k,q,h=>⟨trivial,h⟩
 | f+1,p,k,q,h=>by
   unfold kas_desc
   have r1:=desc_in f (kas_rev p (k - (q+1)) k) (k+1) 0 (h.perm (rev_perm _ _ _))
   have r2:=desc_in f p (k+1) 0 h
   have r3:=desc_in f p (k+1) (q+1) h
   refine ⟨⟨h.at _,h.at _,inR_if (inR_if r1.1 r2.1) ⟨h.at _,h.at _,inR_if trivial r3.1⟩⟩,?_⟩
   rw [ans_ask]
   cases lt (p.getD k 0) (p.getD (k - 1) 0) with
   | true =>
     rw [if_pos rfl]
     by_cases hq:q > 0
     · rw [if_pos hq];exact r1.2
     · rw [if_neg hq];exact r2.2
   | false =>
     rw [if_neg Bool.false_ne_true,ans_ask]
     cases lt (p.getD (k - 1) 0) (p.getD k 0) with
     | true=>rw [if_pos rfl];exact h
     | false=>rw [if_neg Bool.false_ne_true];exact r3.2
theorem tail3_in {p:Array Nat} (h:All p n) (a m:Nat):inR lt n (kas_tail3 a m p)∧All (ans lt (kas_tail3 a m p)).2 n:=by
 unfold kas_tail3
 have h':=h.perm (rev_perm p 0 a)
 refine ⟨inR_bind (asc_in h' _ _) trivial,?_⟩
 rw [ans_bind,ans_ret]
 exact h'
theorem descPart_in {p:Array Nat} (h:All p n) (a m:Nat):inR lt n (kas_descPart a m p)∧All (ans lt (kas_descPart a m p)).2 n:=by
 unfold kas_descPart
 obtain ⟨d1,d2⟩:=desc_in (lt:=lt) (m - (a+1)) p (a+1) 0 h
 rw [ans_bind]
 generalize hr:ans lt (kas_desc (m - (a+1)) p (a+1) 0) = r at d2
 have t1:=tail3_in (lt:=lt) (d2.perm (rev_perm r.1 (r.2.1 - (r.2.2+1)) r.2.1)) r.2.1 m
 have t2:=tail3_in (lt:=lt) d2 r.2.1 m
 refine ⟨inR_bind d1 (by rw [hr];exact inR_if t1.1 t2.1),?_⟩
 by_cases hq:r.2.2 > 0
 · rw [if_pos hq];exact t1.2
 · rw [if_neg hq];exact t2.2
theorem count_in {p:Array Nat} (h:All p n) (m:Nat):inR lt n (kas_count m p)∧All (ans lt (kas_count m p)).2 n:=by
 unfold kas_count
 rw [ans_bind]
 have a1:=asc_in (lt:=lt) h (m - 1) 1
 generalize hk:ans lt (kas_asc p (m - 1) 1) = k
 have t1:=descPart_in (lt:=lt) (h.perm (rev_perm p 0 k)) k m
 have t2:=descPart_in (lt:=lt) h k m
 refine ⟨inR_bind a1 (by rw [hk];exact inR_if trivial (inR_if ⟨h.at _,h.at _,inR_if trivial t1.1⟩ t2.1)),?_⟩
 by_cases e:(k == m) = true
 · rw [if_pos e];exact h
 · rw [if_neg e]
   by_cases h1:k > 1
   · rw [if_pos h1,ans_ask]
     cases lt (p.getD 0 0) (p.getD (k - 1) 0) with
     | true=>rw [if_pos rfl];exact h
     | false=>rw [if_neg Bool.false_ne_true];exact t1.2
   · rw [if_neg h1];exact t2.2
theorem place_in {p:Array Nat} (h:All p n) (k:Nat):∀ f l r,inR lt n (kas_place p k f l r)
 | 0,l,r=>trivial
 | f+1,l,r=>by
   unfold kas_place
   exact inR_if trivial ⟨h.at _,h.at _,inR_if (place_in h k f _ _) (place_in h k f _ _)⟩
theorem bin_in:∀ (f:Nat) (p:Array Nat) (k:Nat),All p n→inR lt n (kas_bin f p k)
 | 0,p,k,h=>trivial
 | f+1,p,k,h=>by
   unfold kas_bin
   exact inR_bind (place_in h k _ _ _) (bin_in f _ _ (h.perm (bubble_perm _ _ _)))
theorem sort_in (hn:0 < n):inR lt n (kas_sort n):=by
 unfold kas_sort
 have h:All (List.toArray (List.range n)) n:=⟨hn,fun x hx=>by simpa using hx⟩
 obtain ⟨c1,c2⟩:=count_in (lt:=lt) h n
 exact inR_bind c1 (inR_if (bin_in _ _ _ c2) trivial)
end
theorem kas_det {α:Type} {prog:Program} {w:World} {A:Around} {κ:SortKind} {vs:List Value} {lt:Nat→Nat→Bool} {n:Nat} {s:Shared} {Q:α→Shared→Prop}
 (ha:∀ i j,i < n→j < n→∀ C:Bool→Shared→Prop,C (lt i j) s→kas_ask prog w A κ vs i j C s):∀ t:KasT α,inR lt n t→Q (ans lt t) s→t.kasWp (kas_ask prog w A κ vs) Q s
 | .ret a,_,q=>q
 | .ask i j k,⟨h1,h2,h3⟩,q=>ha i j h1 h2 _ (kas_det ha (k (lt i j)) h3 q)
def outOf (lt:Nat→Nat→Bool) (vs:List Value):List Value:=if vs.length < 2 then vs else (ans lt (kas_sort vs.length)).toList.map fun i=>vs.getD i Value.none
section
variable {prog:Program} {w:World} {A:Around} {E:Value→Shared→Prop} {s:Shared}
theorem list_sort_by {a:Addr} {vs:List Value} {n:Nat} {lt:Nat→Nat→Bool} {κ:SortKind} {P:PySem.Fin→Shared→Prop} (ho:s.heap.get? a = some (seqObj "list" vs.toArray n)) (h64:vs.length < 64)
 (hlen:(outOf lt vs).length = vs.length)
 (hk:2≤vs.length→∀ h':Heap,(∀ b o,b≠a→s.heap.get? b = some o→h'.get? b = some o)→∀ C:SortKind→Shared→Prop,C κ { s with heap:=h' }→wpAny (model prog w) A (keyKind' vs.toArray) C (fun _ _=>False) { s with heap:=h' })
 (ha:∀ h':Heap,(∀ b o,b≠a→s.heap.get? b = some o→h'.get? b = some o)→∀ i j,i < vs.length→j < vs.length→∀ C:Bool→Shared→Prop,C (lt i j) { s with heap:=h' }→kas_ask prog w A κ vs i j C { s with heap:=h' })
 (q:P (.done (.ret .none)) { s with heap:=sortedHeap s.heap a vs (outOf lt vs).toArray }):wpAny (model prog w) A (Builtin.«list.sort» ⟨[.ref a],[]⟩) P E s:=by
 have la:a < s.heap.objs.size:=Heap.lt_size ho
 obtain ⟨e1,o1⟩:∃ e1,(s.heap.update a (Obj.mapSeq fun _=>(#[]:Array Value))).get? a = some (seqObj "list" #[] e1):=⟨_,get?_update_seq ho fun _ => #[]⟩
 have o3:(((s.heap.update a (Obj.mapSeq fun _=>(#[]:Array Value))).push (seqObj "tuple" vs.toArray 0)).push (seqObj "list" #[] 0)).get? a = some (seqObj "list" #[] e1):=Heap.get?_push_of_some _ (Heap.get?_push_of_some _ o1)
 have keep:∀ b o,b≠a→s.heap.get? b = some o→(((s.heap.update a (Obj.mapSeq fun _=>(#[]:Array Value))).push (seqObj "tuple" vs.toArray 0)).push (seqObj "list" #[] 0)).get? b = some o:=fun b o hb e =>
  Heap.get?_push_of_some _ (Heap.get?_push_of_some _ ((Heap.get?_update_other _ _ (Ne.symm hb)).trans e))
 have sz:(outOf lt vs).toArray.size≤sizeLine:=by rw [List.size_toArray,hlen,sizeLine_eq];omega
 rw [list_sort_plain]
 refine wpAny_bind (listItems_at ho rfl (wpAny_bind (listUpdate_at ho rfl ?_ (by rw [List.size_toArray,sizeLine_eq];omega) (Nat.zero_le _))))
 refine wpAny_bind (seqEpoch_at o1 rfl (wpAny_bind (wpAny_newTuple ?_ (by show vs.length≤_;rw [sizeLine_eq];omega))))
 refine wpAny_bind (wpAny_newList (wpAny_holding ?_) (Nat.zero_le _))
 show wpAny (model prog w) A _ P E { s with heap:=((s.heap.update a (Obj.mapSeq fun _=>(#[]:Array Value))).push (seqObj "tuple" vs.toArray 0)).push (seqObj "list" #[] 0) }
 dsimp only
 by_cases h2:vs.toArray.size < 2
 · have hv:vs.length < 2:=by simpa using h2
   have eo:outOf lt vs = vs:=by unfold outOf;rw [if_pos hv]
   rw [if_pos h2,if_pos h2]
   refine wpAny_bind (wpAny_pure ?_)
   rw [StateT.run_pure]
   refine wpAny_bind (wpAny_pure ?_)
   dsimp only
   refine wpAny_bind (seqEpoch_at o3 rfl ?_)
   have em:(arrOf (SortSt.mk' general' (vs.toArray.zip vs.toArray) #[] 7 none)).map (·.2) = (outOf lt vs).toArray:=by
    rw [eo]
    show (vs.toArray.zip vs.toArray).map (·.2) = vs.toArray
    apply Array.ext
    · simp
    · intro i h1 h2
      simp
   rw [em]
   refine wpAny_bind (listUpdate_at o3 rfl ?_ (Nat.zero_le _) (Nat.le_succ_of_le sz))
   simp only [bne_self_eq_false,Bool.false_eq_true,if_false]
   exact wpAny_pure q
 · have hv:¬ vs.length < 2:=by simpa using h2
   have eo:outOf lt vs = (ans lt (kas_sort vs.length)).toList.map fun i=>vs.getD i Value.none:=by unfold outOf;rw [if_neg hv]
   rw [if_neg h2,if_neg h2]
   refine wpAny_bind (wpAny_mono (hk (by omega) _ keep (fun κ' s'=>κ' = κ∧s' = { s with heap:=((s.heap.update a (Obj.mapSeq fun _=>(#[]:Array Value))).push (seqObj "tuple" vs.toArray 0)).push (seqObj "list" #[] 0) }) ⟨rfl,rfl⟩) (fun κ' s0 hk=>?_) fun _ _ x=>x.elim)
   obtain ⟨rfl,rfl⟩:=hk
   refine wpAny_bind (wpAny_mono (kat_run (Q:=fun st' s'=>s' = { s with heap:=((s.heap.update a (Obj.mapSeq fun _=>(#[]:Array Value))).push (seqObj "tuple" vs.toArray 0)).push (seqObj "list" #[] 0) }∧∃ p:Array Nat,arrOf st' = p.map (kas_item (vs.toArray.zip vs.toArray))∧failedOf st' = none∧p = ans lt (kas_sort vs.length))
    (G:=fun p s'=>s' = { s with heap:=((s.heap.update a (Obj.mapSeq fun _=>(#[]:Array Value))).push (seqObj "tuple" vs.toArray 0)).push (seqObj "list" #[] 0) }∧p = ans lt (kas_sort vs.length)) rfl (by omega) h64 (fun p st' s' a1 a2 a3 a4=>⟨a4.1,p,a2,a3,a4.2⟩)
    (kas_det (lt:=lt) (n:=vs.length) (fun i j h1 h2 C hc=>ha _ keep i j h1 h2 C hc) _ (sort_in (by omega)) ⟨rfl,rfl⟩)) ?_ fun _ _ e=>e)
   rintro ⟨⟨⟩,st'⟩ s' ⟨rfl,p,har,hf,rfl⟩
   dsimp only
   rw [kat_snds rfl har,← eo]
   refine wpAny_bind (seqEpoch_at o3 rfl (wpAny_bind (listUpdate_at o3 rfl ?_ (Nat.zero_le _) (Nat.le_succ_of_le sz))))
   rw [hf]
   simp only [bne_self_eq_false,Bool.false_eq_true,if_false]
   exact wpAny_pure q
theorem sorted_by {l:Addr} {vs:List Value} {lt:Nat→Nat→Bool} {κ:SortKind} {Q:Value→Shared→Prop} (hl:s.heap.IsList l vs.toArray) (h64:vs.length < 64) (hlen:(outOf lt vs).length = vs.length)
 (hk:2≤vs.length→∀ (A':Around) (h':Heap),A'.units≤A.units+2→(∀ b o,s.heap.get? b = some o→h'.get? b = some o)→∀ C:SortKind→Shared→Prop,C κ { s with heap:=h' }→wpAny (model prog w) A' (keyKind' vs.toArray) C (fun _ _=>False) { s with heap:=h' })
 (ha:∀ (A':Around) (h':Heap),A'.units≤A.units+2→(∀ b o,s.heap.get? b = some o→h'.get? b = some o)→∀ i j,i < vs.length→j < vs.length→∀ C:Bool→Shared→Prop,C (lt i j) { s with heap:=h' }→kas_ask prog w A' κ vs i j C { s with heap:=h' })
 (q:Q (.ref (s.heap.objs.size+1)) { s with heap:=sortedAll s.heap vs (outOf lt vs).toArray }):wpAny (model prog w) A (call (.builtin "sorted") [.ref l]) Q E s:=by
 refine Calls.call_function_entry kind_sorted plain_sorted entry_sorted (args_sorted1 _) ?_
 unfold Builtin.«sorted»
 refine wpAny_bind (m:=checkCount "sorted" 1 1 _) (wpAny_pure ?_)
 refine wpAny_bind (collect_list hl (wpAny_bind (wpAny_newList ?_ (by rw [sizeLine_eq];omega))) (by rw [sizeLine_eq];omega))
 have hs:((s.heap.push (seqObj "list" #[] 0)).update s.heap.objs.size (Obj.mapSeq (·++vs.toArray))).objs.size = s.heap.objs.size+1:=by rw [Heap.size_update,size_push']
 have hL:(((s.heap.push (seqObj "list" #[] 0)).update s.heap.objs.size (Obj.mapSeq (·++vs.toArray))).push (seqObj "list" vs.toArray 0)).get? (s.heap.objs.size+1) = some (seqObj "list" vs.toArray 0):=by
  rw [← hs];exact Heap.get?_push_size _ rfl
 have keep:∀ b o,s.heap.get? b = some o→b≠s.heap.objs.size+1∧(((s.heap.push (seqObj "list" #[] 0)).update s.heap.objs.size (Obj.mapSeq (·++vs.toArray))).push (seqObj "list" vs.toArray 0)).get? b = some o:=fun b o e=>by
  have hlt:b < s.heap.objs.size:=Heap.lt_size e
  exact ⟨Nat.ne_of_lt (Nat.lt_succ_of_lt hlt),Heap.get?_push_of_some _ ((Heap.get?_update_other _ _ (Nat.ne_of_gt hlt)).trans (Heap.get?_push_of_some _ e))⟩
 show wpAny _ _ _ _ _ { s with heap:=((s.heap.push (seqObj "list" #[] 0)).update s.heap.objs.size (Obj.mapSeq (·++vs.toArray))).push (seqObj "list" vs.toArray 0) }
 rw [hs]
 refine wpAny_bind (wpAny_holding (wpAny_call_entry slot_list_sort ⟨_,hL,rfl⟩ entry_list_sort ?body (args_list_sort _)))
 case body =>
  refine list_sort_by (lt:=lt) (κ:=κ) hL h64 hlen (fun h2 h' kp=>hk h2 _ h' ?_ fun b o e=>kp b o (keep b o e).1 (keep b o e).2) (fun h' kp=>ha _ h' ?_ fun b o e=>kp b o (keep b o e).1 (keep b o e).2) ?_
  · exact Nat.le_refl _
  · exact Nat.le_refl _
  · exact ⟨_,rfl,wpAny_pure ⟨_,rfl,q⟩⟩
end
end PP
end
section
namespace PP
open PySem L2 PySem.SeqAt PyProof.Rows PySem.W
variable [Tbs]
section
variable {lt:Nat→Nat→Bool}
theorem desc_perm:∀ (f:Nat) (p:Array Nat) (k q:Nat),(ans lt (kas_desc f p k q)).1.Perm p
 | 0,p,k,q=>Array.Perm.refl _
 | f+1,p,k,q=>by
   unfold kas_desc
   rw [ans_ask]
   cases lt (p.getD k 0) (p.getD (k - 1) 0) with
   | true =>
     rw [if_pos rfl]
     by_cases hq:q > 0
     · rw [if_pos hq];exact (desc_perm f _ _ _).trans (rev_perm _ _ _)
     · rw [if_neg hq];exact desc_perm f _ _ _
   | false =>
     rw [if_neg Bool.false_ne_true,ans_ask]
     cases lt (p.getD (k - 1) 0) (p.getD k 0) with
     | true=>rw [if_pos rfl];exact Array.Perm.refl _
     | false=>rw [if_neg Bool.false_ne_true];exact desc_perm f _ _ _
theorem tail3_perm (a m:Nat) (p:Array Nat):(ans lt (kas_tail3 a m p)).2.Perm p:=by
 unfold kas_tail3
 rw [ans_bind,ans_ret]
 exact rev_perm _ _ _
theorem descPart_perm (a m:Nat) (p:Array Nat):(ans lt (kas_descPart a m p)).2.Perm p:=by
 unfold kas_descPart
 rw [ans_bind]
 have d:=desc_perm (lt:=lt) (m - (a+1)) p (a+1) 0
 generalize ans lt (kas_desc (m - (a+1)) p (a+1) 0) = r at d
 by_cases hq:r.2.2 > 0
 · rw [if_pos hq];exact ((tail3_perm _ _ _).trans (rev_perm _ _ _)).trans d
 · rw [if_neg hq];exact (tail3_perm _ _ _).trans d
theorem count_perm (m:Nat) (p:Array Nat):(ans lt (kas_count m p)).2.Perm p:=by
 unfold kas_count
 rw [ans_bind]
 generalize ans lt (kas_asc p (m - 1) 1) = k
 by_cases e:(k == m) = true
 · rw [if_pos e];exact Array.Perm.refl _
 · rw [if_neg e]
   by_cases h1:k > 1
   · rw [if_pos h1,ans_ask]
     cases lt (p.getD 0 0) (p.getD (k - 1) 0) with
     | true=>rw [if_pos rfl];exact Array.Perm.refl _
     | false=>rw [if_neg Bool.false_ne_true];exact (descPart_perm _ _ _).trans (rev_perm _ _ _)
   · rw [if_neg h1];exact descPart_perm _ _ _
theorem bin_perm:∀ (f:Nat) (p:Array Nat) (k:Nat),(ans lt (kas_bin f p k)).Perm p
 | 0,p,k=>Array.Perm.refl _
 | f+1,p,k=>by
   unfold kas_bin
   rw [ans_bind]
   exact (bin_perm f _ _).trans (bubble_perm _ _ _)
theorem sort_perm (n:Nat):(ans lt (kas_sort n)).Perm (List.toArray (List.range n)):=by
 unfold kas_sort
 rw [ans_bind]
 have c:=count_perm (lt:=lt) n (List.toArray (List.range n))
 generalize ans lt (kas_count n (List.toArray (List.range n))) = r at c
 by_cases h:r.1 < n
 · rw [if_pos h];exact (bin_perm _ _ _).trans c
 · rw [if_neg h];exact c
theorem sort_list (n:Nat):(ans lt (kas_sort n)).toList.Perm (List.range n):=by
 have:=(sort_perm (lt:=lt) n).toList
 simpa using this
end
mutual
theorem RdV.keep {h h':Heap} (k:∀ b o,h.get? b = some o→h'.get? b = some o):∀ (d:D) (u:Value),RdV h d u→RdV h' d u
 | .non,u,r=>by unfold RdV at r ⊢;exact r
 | .bl _,u,r=>by unfold RdV at r ⊢;exact r
 | .int _,u,r=>by unfold RdV at r ⊢;exact r
 | .str _,u,r=>by unfold RdV at r ⊢;exact r
 | .lst ds,u,r=>by
   unfold RdV at r ⊢
   obtain ⟨a,its,e,⟨o,h1,h2⟩,h3⟩:=r
   exact ⟨a,its,e,⟨o,k _ _ h1,h2⟩,RdL.keep k ds _ h3⟩
 | .tup ds,u,r=>by
   unfold RdV at r ⊢
   obtain ⟨a,its,e,⟨o,h1,h2⟩,h3⟩:=r
   exact ⟨a,its,e,⟨o,k _ _ h1,h2⟩,RdL.keep k ds _ h3⟩
 | .fn _ _,u,r=>by unfold RdV at r;exact r.elim
 | .dct _ _,u,r=>by unfold RdV at r;exact r.elim
theorem RdL.keep {h h':Heap} (k:∀ b o,h.get? b = some o→h'.get? b = some o):∀ (ds:List D) (us:List Value),RdL h ds us→RdL h' ds us
 | [],us,r=>by unfold RdL at r ⊢;exact r
 | d::ds,us,r=>by
   unfold RdL at r ⊢
   obtain ⟨w,ws,e,r1,r2⟩:=r
   exact ⟨w,ws,e,RdV.keep k d w r1,RdL.keep k ds ws r2⟩
end
theorem RdL.nth {h:Heap}:∀ {ds:List D} {us:List Value} (i:Nat),RdL h ds us→i < ds.length→RdV h (ds.getD i .non) (us.getD i Value.none)
 | [],us,i,r,hi=>by simp at hi
 | d::ds,us,i,r,hi=>by
   unfold RdL at r
   obtain ⟨w,ws,rfl,r1,r2⟩:=r
   cases i with
   | zero=>exact r1
   | succ i=>exact RdL.nth i r2 (by simpa using hi)
section
variable {prog:Program} {w:World} {s:Shared}
theorem one_D {A:Around} {E:Value→Shared→Prop} {a b:D} {u v:Value} {k:Bool} {Q:Bool→Shared→Prop} (ra:RdV s.heap a u) (rb:RdV s.heap b v) (hk:(headK a = 1∧headK b = 1)∨(headK a = 2∧headK b = 2)) (h:ltD a b = some k) (q:Q k s):wpAny (model prog w) A (oneLt' true u v) Q E s:=by
 rcases hk with ⟨h1,h2⟩ | ⟨h1,h2⟩
 · cases a<;>first | (simp [headK] at h1;done) | skip
   · cases b<;>first | (simp [headK] at h2;done) | skip
     · unfold RdV at ra rb
       obtain ⟨t,rfl⟩:=ra
       obtain ⟨t',rfl⟩:=rb
       unfold ltD at h
       cases h
       exact oneLt_str q
     · rename_i l;cases l with
       | nil=>simp [headK] at h2
       | cons x r=>cases x<;>simp [headK] at h2
   · rename_i l;cases l with
     | nil=>simp [headK] at h1
     | cons x r=>cases x<;>simp [headK] at h1
 · cases a<;>first | (simp [headK] at h1;done) | skip
   · cases b<;>first | (simp [headK] at h2;done) | skip
     · unfold RdV at ra rb
       obtain ⟨t,rfl⟩:=ra
       obtain ⟨t',rfl⟩:=rb
       unfold ltD at h
       cases h
       exact oneLt_int q
     · rename_i l;cases l with
       | nil=>simp [headK] at h2
       | cons x r=>cases x<;>simp [headK] at h2
   · rename_i l;cases l with
     | nil=>simp [headK] at h1
     | cons x r=>cases x<;>simp [headK] at h1
theorem katLex_D {A:Around} {fin:Bool} {Q:Bool→Shared→Prop} {k:Bool}:∀ (as bs:List D) (us vs:List Value) (i:Nat),RdL s.heap as us→RdL s.heap bs vs→A.units+min (depL as) (depL bs)+1 < cLine→ltDs as bs = some k→fin = decide (as.length < bs.length) →
 (i = 0→∀ x y,as.head? = some x→bs.head? = some y→(headK x = 1∧headK y = 1)∨(headK x = 2∧headK y = 2))→Q k s→KatLex prog w A true fin Q (us.zip vs) i s
 | [],[],us,vs,i,ra,rb,hu,h,hf,hh,q=>by
   unfold RdL at ra rb
   subst ra;subst rb
   unfold ltDs at h
   cases h
   subst hf
   exact kat_nil q
 | [],y::ys,us,vs,i,ra,rb,hu,h,hf,hh,q=>by
   unfold RdL at ra
   subst ra
   unfold ltDs at h
   cases h
   have:fin = true:=by rw [hf];simp
   subst this
   exact kat_nil q
 | x::xs,[],us,vs,i,ra,rb,hu,h,hf,hh,q=>by
   unfold RdL at rb
   subst rb
   unfold ltDs at h
   cases h
   have:fin = false:=by rw [hf];simp
   subst this
   rw [List.zip_nil_right]
   exact kat_nil q
 | x::xs,y::ys,us,vs,i,ra,rb,hu,h,hf,hh,q=>by
   unfold RdL at ra rb
   obtain ⟨u,us',rfl,ra1,ra2⟩:=ra
   obtain ⟨v,vs',rfl,rb1,rb2⟩:=rb
   unfold ltDs at h
   unfold depL at hu
   rw [List.zip_cons_cons]
   refine kat_cons (eqAt_D x y A s u v ra1 rb1 (by omega) prog w _ _ ?_)
   cases e:eqD x y with
   | true =>
     rw [e,if_pos rfl] at h
     exact kat_yes (katLex_D xs ys us' vs' (i+1) ra2 rb2 (by omega) h (by rw [hf];simp) (fun z=>by omega) q)
   | false =>
     rw [e,if_neg Bool.false_ne_true] at h
     refine kat_no ?_
     by_cases hi:i = 0
     · subst hi
       exact one_D ra1 rb1 (hh rfl x y rfl rfl) h q
     · have e0:(true && i == 0) = false:=by simp [hi]
       rw [e0]
       exact kat_one u v (ltAt_D x y A s u v k ra1 rb1 (by omega) h prog w _ _ q)
end
end PP
end
section
namespace PP
open PySem
structure Ck where
 N:List Str
 sc:Scope
 fns:List (Str × List Str)
 gn:List Str
def visB (sc:Scope) (x:Str):Bool:=match sc.names.lookup x with
 | some .local=>true | some .cell=>true | some .free=>true | _=>false
def locB (sc:Scope) (x:Str):Bool:=match sc.names.lookup x with
 | some .local=>true | some .cell=>true | _=>false
def glB (sc:Scope) (x:Str):Bool:=match sc.names.lookup x with
 | some .globalImplicit=>true | _=>false
def nmOk (x:Str):Bool:=!(x == ("__debug__":Str)) && !(x == ("__classdict__":Str)) && !(x == ("__name__":Str))
def nameIs (c:Ck) (i:Nat) (x:Str):Bool:=decide (c.N[i]? = some x) && visB c.sc x && nmOk x
def nameTo (c:Ck) (i:Nat) (x:Str):Bool:=decide (c.N[i]? = some x) && locB c.sc x && nmOk x
def globIs (c:Ck) (x:Str):Bool:=glB c.sc x && nmOk x
def opIs:Op→Operator→Bool
 | .add,.Add=>true | .sub,.Sub=>true | .mul,.Mult=>true | .mod,.Mod=>true | .fdiv,.FloorDiv=>true | .pow,.Pow=>true
 | _,_=>false
def copIs:Cop→CmpOp→Bool
 | .lt,.Lt=>true | .gt,.Gt=>true | .eq,.Eq=>true | .ne,.NotEq=>true | .isin,.In=>true | .notin,.NotIn=>true
 | _,_=>false
def bltNm:Blt→Str
 | .len=>"len" | .min=>"min" | .max=>"max" | .toInt=>"int" | .toStr=>"str" | .toTup=>"tuple" | .toLst=>"list" | .dvm=>"divmod" | .any=>"any" | .sum=>"sum" | .sorted=>"sorted"
 | .isTup=>"isinstance"
def bltNames:List Str:=["len","min","max","int","str","tuple","list","dict","sum","isinstance","bool","range","sorted","set","zip","any","divmod"]
def noPk:Es→Bool
 | .nil=>true
 | .cons e es=>!isPk e && noPk es
def okEs:Es→Bool
 | .nil=>true
 | .cons e es=>(!isPk e || npS es) && okEs es
def esLen:Es→Nat
 | .nil=>0
 | .cons _ es=>esLen es+1
def st (x:Expr):Str:=match x with
 | .Name y _=>y
 | .Attribute _ m _=>m
 | _=>""
def cst (x:Expr):Const:=match x with
 | .Constant v _ _=>v
 | _=>.none
def e1 (x:Expr):Expr:=match x with
 | .BinOp y _ _ _=>y
 | .Compare y _ _ _=>y
 | .UnaryOp _ y _=>y
 | .IfExp t _ _ _=>t
 | .Subscript y _ _=>y
 | .Call f _ _ _=>f
 | .Attribute y _ _=>y
 | .ListComp e _ _ _=>e
 | .SetComp e _ _ _=>e
 | _=>x
def bop (x:Expr):Operator:=match x with
 | .BinOp _ o _ _=>o
 | _=>.Add
def e2 (x:Expr):Expr:=match x with
 | .BinOp _ _ z _=>z
 | .IfExp _ y _ _=>y
 | .Subscript _ z _=>z
 | _=>x
def cops (x:Expr):List CmpOp:=match x with
 | .Compare _ os _ _=>os
 | _=>[]
def ls (x:Expr):List Expr:=match x with
 | .Compare _ _ zs _=>zs
 | .BoolOp _ vs _=>vs
 | .Tuple es _ _=>es
 | .List es _=>es
 | .Call _ as _ _=>as
 | _=>[]
def boop (x:Expr):PySem.BoolOp:=match x with
 | .BoolOp o _ _=>o
 | _=>.And
def po (x:Expr):Pos:=match x with
 | .Name _ p=>p
 | .BoolOp _ _ p=>p
 | .Call _ _ _ p=>p
 | .Attribute _ _ p=>p
 | .ListComp _ _ _ p=>p
 | _=>⟨0,0,0,0⟩
def uop (x:Expr):PySem.UnaryOp:=match x with
 | .UnaryOp o _ _=>o
 | _=>.Not
def e3 (x:Expr):Expr:=match x with
 | .IfExp _ _ z _=>z
 | _=>x
def o1 (x:Expr):Option Expr:=match x with
 | .Slice l _ _ _=>l
 | _=>none
def o2 (x:Expr):Option Expr:=match x with
 | .Slice _ h _ _=>h
 | _=>none
def o3 (x:Expr):Option Expr:=match x with
 | .Slice _ _ s _=>s
 | _=>none
def kws (x:Expr):List Keyword:=match x with
 | .Call _ _ ks _=>ks
 | _=>[]
def gns (x:Expr):List Comprehension:=match x with
 | .ListComp _ gs _ _=>gs
 | .SetComp _ gs _ _=>gs
 | _=>[]
def scp (x:Expr) (d:Scope):Scope:=match x with
 | .ListComp _ _ sc _=>sc
 | .SetComp _ _ sc _=>sc
 | _=>d
def tagE:Expr→Nat
 | .Name .. => 0
 | .Constant .. => 1
 | .BinOp .. => 2
 | .Compare .. => 3
 | .BoolOp .. => 4
 | .UnaryOp .. => 5
 | .IfExp .. => 6
 | .Tuple .. => 7
 | .List .. => 8
 | .Subscript .. => 9
 | .Slice .. => 10
 | .Call .. => 11
 | .Attribute .. => 12
 | .ListComp .. => 13
 | .SetComp .. => 14
 | .JoinedStr .. => 15
 | .FormattedValue .. => 16
 | _=>99
def invE (x:Expr):Nat→Prop
 | 0=>∃ y p,x = .Name y p
 | 1=>∃ v n p,x = .Constant v n p
 | 2=>∃ y o z p,x = .BinOp y o z p
 | 3=>∃ y os zs p,x = .Compare y os zs p
 | 4=>∃ o vs p,x = .BoolOp o vs p
 | 5=>∃ o y p,x = .UnaryOp o y p
 | 6=>∃ t y z p,x = .IfExp t y z p
 | 7=>∃ es n p,x = .Tuple es n p
 | 8=>∃ es p,x = .List es p
 | 9=>∃ y z p,x = .Subscript y z p
 | 10=>∃ l u s p,x = .Slice l u s p
 | 11=>∃ f as ks p,x = .Call f as ks p
 | 12=>∃ y m p,x = .Attribute y m p
 | 13=>∃ e gs sc p,x = .ListComp e gs sc p
 | 14=>∃ e gs sc p,x = .SetComp e gs sc p
 | 15=>∃ vs p,x = .JoinedStr vs p
 | 16=>∃ y cv sp p,x = .FormattedValue y cv sp p
 | _=>True
theorem invE_all (x:Expr):invE x (tagE x):=by
 cases x<;>first | trivial | exact ⟨_,_,rfl⟩ | exact ⟨_,_,_,rfl⟩ | exact ⟨_,_,_,_,rfl⟩ | exact ⟨_,_,_,_,_,rfl⟩
theorem invE_of {x:Expr} {n:Nat} {b:Bool} (h:((tagE x == n) && b) = true):invE x n∧b = true:=by
 rw [Bool.and_eq_true] at h
 exact ⟨eq_of_beq h.1▸invE_all x,h.2⟩
@[irreducible] def onName (x:Expr) (k:Str→Bool):Bool:=(tagE x == 0) && k (st x)
theorem onName_of {x:Expr} {k:Str→Bool} (h:onName x k = true):∃ y p,x = .Name y p∧k y = true:=by
 unfold onName at h
 obtain ⟨⟨y,p,rfl⟩,h⟩:=invE_of h
 exact ⟨y,p,rfl,h⟩
@[irreducible] def onC (x:Expr) (k:Const→Bool):Bool:=(tagE x == 1) && k (cst x)
theorem onC_of {x:Expr} {k:Const→Bool} (h:onC x k = true):∃ v n p,x = .Constant v n p∧k v = true:=by
 unfold onC at h
 obtain ⟨⟨v,n,p,rfl⟩,h⟩:=invE_of h
 exact ⟨v,n,p,rfl,h⟩
@[irreducible] def onBin (x:Expr) (k:Expr→Operator→Expr→Bool):Bool:=(tagE x == 2) && k (e1 x) (bop x) (e2 x)
theorem onBin_of {x:Expr} {k:Expr→Operator→Expr→Bool} (h:onBin x k = true):∃ y o z p,x = .BinOp y o z p∧k y o z = true:=by
 unfold onBin at h
 obtain ⟨⟨y,o,z,p,rfl⟩,h⟩:=invE_of h
 exact ⟨y,o,z,p,rfl,h⟩
@[irreducible] def onCmp (x:Expr) (k:Expr→List CmpOp→List Expr→Bool):Bool:=(tagE x == 3) && k (e1 x) (cops x) (ls x)
theorem onCmp_of {x:Expr} {k:Expr→List CmpOp→List Expr→Bool} (h:onCmp x k = true):∃ y os zs p,x = .Compare y os zs p∧k y os zs = true:=by
 unfold onCmp at h
 obtain ⟨⟨y,os,zs,p,rfl⟩,h⟩:=invE_of h
 exact ⟨y,os,zs,p,rfl,h⟩
@[irreducible] def onBo (x:Expr) (k:PySem.BoolOp→List Expr→Pos→Bool):Bool:=(tagE x == 4) && k (boop x) (ls x) (po x)
theorem onBo_of {x:Expr} {k:PySem.BoolOp→List Expr→Pos→Bool} (h:onBo x k = true):∃ o vs p,x = .BoolOp o vs p∧k o vs p = true:=by
 unfold onBo at h
 obtain ⟨⟨o,vs,p,rfl⟩,h⟩:=invE_of h
 exact ⟨o,vs,p,rfl,h⟩
@[irreducible] def onUn (x:Expr) (k:PySem.UnaryOp→Expr→Bool):Bool:=(tagE x == 5) && k (uop x) (e1 x)
theorem onUn_of {x:Expr} {k:PySem.UnaryOp→Expr→Bool} (h:onUn x k = true):∃ o y p,x = .UnaryOp o y p∧k o y = true:=by
 unfold onUn at h
 obtain ⟨⟨o,y,p,rfl⟩,h⟩:=invE_of h
 exact ⟨o,y,p,rfl,h⟩
@[irreducible] def onIf (x:Expr) (k:Expr→Expr→Expr→Bool):Bool:=(tagE x == 6) && k (e1 x) (e2 x) (e3 x)
theorem onIf_of {x:Expr} {k:Expr→Expr→Expr→Bool} (h:onIf x k = true):∃ t y z p,x = .IfExp t y z p∧k t y z = true:=by
 unfold onIf at h
 obtain ⟨⟨t,y,z,p,rfl⟩,h⟩:=invE_of h
 exact ⟨t,y,z,p,rfl,h⟩
@[irreducible] def onTup (x:Expr) (k:List Expr→Bool):Bool:=(tagE x == 7) && k (ls x)
theorem onTup_of {x:Expr} {k:List Expr→Bool} (h:onTup x k = true):∃ es n p,x = .Tuple es n p∧k es = true:=by
 unfold onTup at h
 obtain ⟨⟨es,n,p,rfl⟩,h⟩:=invE_of h
 exact ⟨es,n,p,rfl,h⟩
@[irreducible] def onLst (x:Expr) (k:List Expr→Bool):Bool:=(tagE x == 8) && k (ls x)
theorem onLst_of {x:Expr} {k:List Expr→Bool} (h:onLst x k = true):∃ es p,x = .List es p∧k es = true:=by
 unfold onLst at h
 obtain ⟨⟨es,p,rfl⟩,h⟩:=invE_of h
 exact ⟨es,p,rfl,h⟩
@[irreducible] def onSub (x:Expr) (k:Expr→Expr→Bool):Bool:=(tagE x == 9) && k (e1 x) (e2 x)
theorem onSub_of {x:Expr} {k:Expr→Expr→Bool} (h:onSub x k = true):∃ y z p,x = .Subscript y z p∧k y z = true:=by
 unfold onSub at h
 obtain ⟨⟨y,z,p,rfl⟩,h⟩:=invE_of h
 exact ⟨y,z,p,rfl,h⟩
@[irreducible] def onSl (x:Expr) (k:Option Expr→Option Expr→Option Expr→Bool):Bool:=(tagE x == 10) && k (o1 x) (o2 x) (o3 x)
theorem onSl_of {x:Expr} {k:Option Expr→Option Expr→Option Expr→Bool} (h:onSl x k = true):∃ l u s p,x = .Slice l u s p∧k l u s = true:=by
 unfold onSl at h
 obtain ⟨⟨l,u,s,p,rfl⟩,h⟩:=invE_of h
 exact ⟨l,u,s,p,rfl,h⟩
@[irreducible] def onCall (x:Expr) (k:Expr→List Expr→List Keyword→Pos→Bool):Bool:=(tagE x == 11) && k (e1 x) (ls x) (kws x) (po x)
theorem onCall_of {x:Expr} {k:Expr→List Expr→List Keyword→Pos→Bool} (h:onCall x k = true):∃ f as ks p,x = .Call f as ks p∧k f as ks p = true:=by
 unfold onCall at h
 obtain ⟨⟨f,as,ks,p,rfl⟩,h⟩:=invE_of h
 exact ⟨f,as,ks,p,rfl,h⟩
@[irreducible] def onAt (x:Expr) (k:Expr→Str→Pos→Bool):Bool:=(tagE x == 12) && k (e1 x) (st x) (po x)
theorem onAt_of {x:Expr} {k:Expr→Str→Pos→Bool} (h:onAt x k = true):∃ y m p,x = .Attribute y m p∧k y m p = true:=by
 unfold onAt at h
 obtain ⟨⟨y,m,p,rfl⟩,h⟩:=invE_of h
 exact ⟨y,m,p,rfl,h⟩
@[irreducible] def onLC (x:Expr) (k:Expr→List Comprehension→Scope→Pos→Bool):Bool:=(tagE x == 13) && k (e1 x) (gns x) (scp x default) (po x)
theorem onLC_of {x:Expr} {k:Expr→List Comprehension→Scope→Pos→Bool} (h:onLC x k = true):∃ e gs sc p,x = .ListComp e gs sc p∧k e gs sc p = true:=by
 unfold onLC at h
 obtain ⟨⟨e,gs,sc,p,rfl⟩,h⟩:=invE_of h
 exact ⟨e,gs,sc,p,rfl,h⟩
def sls (x:Stmt):List Expr:=match x with
 | .Assign ts _ _=>ts
 | _=>[]
def s1 (x:Stmt):Expr:=match x with
 | .Assign _ y _=>y
 | .AugAssign t _ _ _=>t
 | .If t _ _ _=>t
 | .For t _ _ _ _=>t
 | .While t _ _ _=>t
 | .Expr y _=>y
 | _=>.Constant .none 0 ⟨0,0,0,0⟩
def s2 (x:Stmt):Expr:=match x with
 | .AugAssign _ _ y _=>y
 | .For _ it _ _ _=>it
 | _=>.Constant .none 0 ⟨0,0,0,0⟩
def so (x:Stmt):Option Expr:=match x with
 | .Return y _=>y
 | _=>none
def sb (x:Stmt):List Stmt:=match x with
 | .If _ y _ _=>y
 | .For _ _ y _ _=>y
 | .While _ y _ _=>y
 | _=>[]
def sc2 (x:Stmt):List Stmt:=match x with
 | .If _ _ z _=>z
 | .For _ _ _ z _=>z
 | .While _ _ z _=>z
 | _=>[]
def tagS:Stmt→Nat
 | .Assign .. => 0
 | .AugAssign .. => 1
 | .Return .. => 2
 | .If .. => 3
 | .For .. => 4
 | .While .. => 5
 | .Expr .. => 6
 | _=>99
def invS (x:Stmt):Nat→Prop
 | 0=>∃ ts y p,x = .Assign ts y p
 | 1=>∃ t o y p,x = .AugAssign t o y p
 | 2=>∃ y p,x = .Return y p
 | 3=>∃ t y z p,x = .If t y z p
 | 4=>∃ t it y z p,x = .For t it y z p
 | 5=>∃ t y z p,x = .While t y z p
 | 6=>∃ y p,x = .Expr y p
 | _=>True
theorem invS_all (x:Stmt):invS x (tagS x):=by
 cases x<;>first | trivial | exact ⟨_,_,rfl⟩ | exact ⟨_,_,_,rfl⟩ | exact ⟨_,_,_,_,rfl⟩ | exact ⟨_,_,_,_,_,rfl⟩
theorem invS_of {x:Stmt} {n:Nat} {b:Bool} (h:((tagS x == n) && b) = true):invS x n∧b = true:=by
 rw [Bool.and_eq_true] at h
 exact ⟨eq_of_beq h.1▸invS_all x,h.2⟩
@[irreducible] def onAsg (x:Stmt) (k:List Expr→Expr→Bool):Bool:=(tagS x == 0) && k (sls x) (s1 x)
theorem onAsg_of {x:Stmt} {k:List Expr→Expr→Bool} (h:onAsg x k = true):∃ ts y p,x = .Assign ts y p∧k ts y = true:=by
 unfold onAsg at h
 obtain ⟨⟨ts,y,p,rfl⟩,h⟩:=invS_of h
 exact ⟨ts,y,p,rfl,h⟩
@[irreducible] def onRet (x:Stmt) (k:Option Expr→Bool):Bool:=(tagS x == 2) && k (so x)
theorem onRet_of {x:Stmt} {k:Option Expr→Bool} (h:onRet x k = true):∃ y p,x = .Return y p∧k y = true:=by
 unfold onRet at h
 obtain ⟨⟨y,p,rfl⟩,h⟩:=invS_of h
 exact ⟨y,p,rfl,h⟩
@[irreducible] def onIfS (x:Stmt) (k:Expr→List Stmt→List Stmt→Bool):Bool:=(tagS x == 3) && k (s1 x) (sb x) (sc2 x)
theorem onIfS_of {x:Stmt} {k:Expr→List Stmt→List Stmt→Bool} (h:onIfS x k = true):∃ t y z p,x = .If t y z p∧k t y z = true:=by
 unfold onIfS at h
 obtain ⟨⟨t,y,z,p,rfl⟩,h⟩:=invS_of h
 exact ⟨t,y,z,p,rfl,h⟩
@[irreducible] def onFor (x:Stmt) (k:Expr→Expr→List Stmt→List Stmt→Bool):Bool:=(tagS x == 4) && k (s1 x) (s2 x) (sb x) (sc2 x)
theorem onFor_of {x:Stmt} {k:Expr→Expr→List Stmt→List Stmt→Bool} (h:onFor x k = true):∃ t it y z p,x = .For t it y z p∧k t it y z = true:=by
 unfold onFor at h
 obtain ⟨⟨t,it,y,z,p,rfl⟩,h⟩:=invS_of h
 exact ⟨t,it,y,z,p,rfl,h⟩
@[irreducible] def onWh (x:Stmt) (k:Expr→List Stmt→List Stmt→Bool):Bool:=(tagS x == 5) && k (s1 x) (sb x) (sc2 x)
theorem onWh_of {x:Stmt} {k:Expr→List Stmt→List Stmt→Bool} (h:onWh x k = true):∃ t y z p,x = .While t y z p∧k t y z = true:=by
 unfold onWh at h
 obtain ⟨⟨t,y,z,p,rfl⟩,h⟩:=invS_of h
 exact ⟨t,y,z,p,rfl,h⟩
@[irreducible] def onEx (x:Stmt) (k:Expr→Bool):Bool:=(tagS x == 6) && k (s1 x)
theorem onEx_of {x:Stmt} {k:Expr→Bool} (h:onEx x k = true):∃ y p,x = .Expr y p∧k y = true:=by
 unfold onEx at h
 obtain ⟨⟨y,p,rfl⟩,h⟩:=invS_of h
 exact ⟨y,p,rfl,h⟩
section
variable {α:Type} {xs:List α}
@[irreducible] def on0 (xs:List α) (k:Bool):Bool:=match xs with
 | []=>k
 | _=>false
theorem on0_of {k:Bool} (h:on0 xs k = true):xs = []∧k = true:=by
 unfold on0 at h
 cases xs<;>first | exact ⟨rfl,h⟩ | cases h
@[irreducible] def onS (xs:List α) (k:α→List α→Bool):Bool:=match xs with
 | y::ys=>k y ys
 | _=>false
theorem onS_of {k:α→List α→Bool} (h:onS xs k = true):∃ y ys,xs = y::ys∧k y ys = true:=by
 unfold onS at h
 cases xs<;>first | exact ⟨_,_,rfl,h⟩ | cases h
@[irreducible] def on1 (xs:List α) (k:α→Bool):Bool:=onS xs fun y ys=>on0 ys (k y)
theorem on1_of {k:α→Bool} (h:on1 xs k = true):∃ y,xs = [y]∧k y = true:=by
 unfold on1 at h
 obtain ⟨y,ys,rfl,h1⟩:=onS_of h
 obtain ⟨rfl,h2⟩:=on0_of h1
 exact ⟨y,rfl,h2⟩
@[irreducible] def on2 (xs:List α) (k:α→α→Bool):Bool:=onS xs fun y ys=>on1 ys (k y)
theorem on2_of {k:α→α→Bool} (h:on2 xs k = true):∃ y z,xs = [y,z]∧k y z = true:=by
 unfold on2 at h
 obtain ⟨y,ys,rfl,h1⟩:=onS_of h
 obtain ⟨z,rfl,h2⟩:=on1_of h1
 exact ⟨y,z,rfl,h2⟩
end
@[irreducible] def onI (v:Const) (k:Int→Bool):Bool:=match v with
 | .int i=>k i
 | _=>false
theorem onI_of {v:Const} {k:Int→Bool} (h:onI v k = true):∃ i,v = .int i∧k i = true:=by
 unfold onI at h
 cases v<;>first | exact ⟨_,rfl,h⟩ | cases h
@[irreducible] def onB (v:Const) (k:Bool→Bool):Bool:=match v with
 | .bool i=>k i
 | _=>false
theorem onB_of {v:Const} {k:Bool→Bool} (h:onB v k = true):∃ i,v = .bool i∧k i = true:=by
 unfold onB at h
 cases v<;>first | exact ⟨_,rfl,h⟩ | cases h
@[irreducible] def onT (v:Const) (k:Str→Bool):Bool:=match v with
 | .str i=>k i
 | _=>false
theorem onT_of {v:Const} {k:Str→Bool} (h:onT v k = true):∃ i,v = .str i∧k i = true:=by
 unfold onT at h
 cases v<;>first | exact ⟨_,rfl,h⟩ | cases h
def isNon:Const→Bool
 | .none=>true
 | _=>false
theorem isNon_of {v:Const} (h:isNon v = true):v = .none:=by
 cases v<;>first | rfl | cases h
@[irreducible] def onCN (x:Expr) (k:Str→List Expr→Bool):Bool:=onCall x fun f as ks _=>onName f fun n=>on0 ks (k n as)
theorem onCN_of {x:Expr} {k:Str→List Expr→Bool} (h:onCN x k = true):∃ n np as p,x = .Call (.Name n np) as [] p∧k n as = true:=by
 unfold onCN at h
 obtain ⟨f,as,ks,p,rfl,h1⟩:=onCall_of h
 obtain ⟨n,np,rfl,h2⟩:=onName_of h1
 obtain ⟨rfl,h3⟩:=on0_of h2
 exact ⟨n,np,as,p,rfl,h3⟩
@[irreducible] def onM (x:Expr) (k:Expr→Str→List Expr→Bool):Bool:=onCall x fun f as ks cp=>onAt f fun y m ap=>on0 ks (decide (ap.endLine = cp.line) && k y m as)
theorem onM_of {x:Expr} {k:Expr→Str→List Expr→Bool} (h:onM x k = true):∃ y m ap as cp,x = .Call (.Attribute y m ap) as [] cp∧ap.endLine = cp.line∧k y m as = true:=by
 unfold onM at h
 obtain ⟨f,as,ks,cp,rfl,h1⟩:=onCall_of h
 obtain ⟨y,m,ap,rfl,h2⟩:=onAt_of h1
 obtain ⟨rfl,h3⟩:=on0_of h2
 rw [Bool.and_eq_true] at h3
 exact ⟨y,m,ap,as,cp,rfl,of_decide_eq_true h3.1,h3.2⟩
@[irreducible] def onG (g:Comprehension) (k:Expr→Expr→List Expr→Bool):Bool:=decide (g.is_async = 0) && k g.target g.iter g.ifs
theorem onG_of {g:Comprehension} {k:Expr→Expr→List Expr→Bool} (h:onG g k = true):∃ t it il,g = ⟨t,it,il,0⟩∧k t it il = true:=by
 obtain ⟨t,it,il,a⟩:=g
 unfold onG at h
 rw [Bool.and_eq_true] at h
 have e:a = 0:=of_decide_eq_true h.1
 subst e
 exact ⟨t,it,il,rfl,h.2⟩
def tgNames:Expr→Option (List Str)
 | .Name x _=>some [x]
 | .Tuple es _ _=>es.mapM fun | .Name x _=>some x | _=>none
 | _=>none
def ckNs (c:Ck):List Nat→List Expr→Bool
 | [],es=>on0 es true
 | i::is,es=>onS es fun e r=>onName e (fun x=>nameTo c i x) && ckNs c is r
def ckTg (c:Ck):Tg→Expr→Bool
 | .nm i,x=>onName x fun y=>nameTo c i y
 | .tp is,x=>onTup x fun es=>ckNs c is es
 | .pr i is,x=>onTup x fun es=>on2 es fun a b=>onName a (fun y=>nameTo c i y) && onTup b fun es=>ckNs c is es
def tgGe (n:Nat):Tg→Bool
 | .nm i=>decide (n≤i)
 | .tp is=>is.all fun i=>decide (n≤i)
 | .pr i is=>decide (n≤i) && is.all fun i=>decide (n≤i)
def maskN (ts:List Str) (N:List Str):List Str:=N.map fun y=>if ts.contains y then y++(" ":Str) else y
def scopeOk (c:Ck) (sc:Scope):Bool :=
 decide (sc.kind = .function) && sc.names.all fun p=>decide (p.2≠.cell) && (!decide (p.2 = .local) || decide (sc.names.lookup p.1 = some .local)) &&
  (!decide (p.2 = .free) || (match c.sc.names.lookup p.1 with | some .cell=>true | some .free=>true | _=>false))
def namesOk (c:Ck) (sc:Scope) (Nc:List Str):Bool :=
 decide Nc.Nodup && (List.range c.N.length).all fun i=>match Nc[i]? with
  | some x=>!visB sc x || (decide (c.N[i]? = some x) && decide (sc.names.lookup x = some .free))
  | none=>false
def isNot:PySem.UnaryOp→Bool
 | .Not=>true
 | _=>false
def isNeg:PySem.UnaryOp→Bool
 | .USub=>true
 | _=>false
theorem isNot_of {o:PySem.UnaryOp} (h:isNot o = true):o = .Not:=by cases o<;>first | rfl | cases h
theorem isNeg_of {o:PySem.UnaryOp} (h:isNeg o = true):o = .USub:=by cases o<;>first | rfl | cases h
@[irreducible] def onO (x:Option Expr) (k:Expr→Bool):Bool:=match x with
 | some y=>k y
 | none=>false
theorem onO_of {x:Option Expr} {k:Expr→Bool} (h:onO x k = true):∃ y,x = some y∧k y = true:=by
 unfold onO at h
 cases x with
 | none=>cases h
 | some y=>exact ⟨y,rfl,h⟩
def headOk:Expr→Bool
 | .Name .. | .Constant .. | .BinOp .. | .Compare .. | .BoolOp .. | .UnaryOp .. | .IfExp .. | .Tuple .. | .List .. | .Subscript .. | .Call .. | .ListComp .. => true
 | .JoinedStr .. => true
 | _=>false
mutual
def ckE (c:Ck):E→Expr→Bool
 | .var i,x=>onName x fun y=>nameIs c i y
 | .pk i,x=>onName x fun y=>nameIs c i y
 | .glob g,x=>onName x fun y=>decide (c.gn[g]? = some y) && globIs c y
 | .int i,x=>onC x fun v=>onI v fun j=>decide (i = j)
 | .bl b,x=>onC x fun v=>onB v fun j=>decide (b = j)
 | .non,x=>onC x isNon
 | .str t,x=>onC x fun v=>onT v fun u=>decide (t = u)
 | .bin op a b,x=>onBin x fun y o z=>opIs op o && ckE c a y && ckE c b z && (!isPk a || np b)
 | .cmp op a b,x=>onCmp x fun y os zs=>on1 os fun o=>on1 zs fun z=>copIs op o && ckE c a y && ckE c b z && (!isPk a || np b)
 | .and a b,x=>onBo x fun o vs p=>onS vs fun y r=>onS r fun z r2=>(match o with
   | .And=>true
   | .Or=>false) && ckE c a y && ckE c b (match r2 with
   | []=>z
   | _::_=>.BoolOp .And (z::r2) p) && !isPk a && !isPk b
 | .or a b,x=>onBo x fun o vs p=>onS vs fun y r=>onS r fun z r2=>(match o with
   | .And=>false
   | .Or=>true) && ckE c a y && ckE c b (match r2 with
   | []=>z
   | _::_=>.BoolOp .Or (z::r2) p) && !isPk a && !isPk b
 | .not a,x=>onUn x fun o y=>isNot o && ckE c a y && !isPk a
 | .neg a,x=>onUn x fun o y=>isNeg o && ckE c a y && !isPk a
 | .ite k a b,x=>onIf x fun t y z=>ckE c k t && ckE c a y && ckE c b z && !isPk a && !isPk b
 | .tup es,x=>onTup x fun xs=>ckEs c es xs && noPk es
 | .lst es,x=>onLst x fun xs=>ckEs c es xs && noPk es
 | .ix a b,x=>onSub x fun y z=>ckE c a y && ckE c b z && (!isPk a || np b) && !isPk b
 | .sl a lo hi,x=>onSub x fun y z=>onSl z fun l h s=>s.isNone && (ckE c a y && ckO c lo l && ckO c hi h && (!isPk a || (npO lo && npO hi)))
 | .call f es,x=>onCN x fun n xs=>(match c.fns[f]? with
    | some (m,ps)=>decide (m = n) && globIs c n && decide (ps.length = esLen es) && ckEs c es xs && noPk es && !xs.isEmpty
    | none=>false)
 | .blt f es,x=>onCN x fun n xs=>decide (bltNm f = n) && globIs c n && (match tyName f with
    | some T=>on2 xs fun y w=>onName w fun t=>decide (t = (T:Str)) && globIs c t && ckEs c es [y] && okEs es
    | none=>!xs.isEmpty && ckEs c es xs && okEs es)
 | .pop i,x=>onM x fun y m as=>onName y fun y=>on0 as (decide (m = ("pop":Str)) && nameIs c i y)
 | .bad,x=>headOk x
 | .comp k tg src ifs elt,x=>onLC x fun ex gs sc _=>on1 gs fun g=>onG g fun t it il=>(match tgNames t with
    | some ts=>decide (ts.length = k) && tgGe c.N.length tg && scopeOk c sc && namesOk c sc (maskN ts c.N++ts) && ckTg ⟨maskN ts c.N++ts,sc,c.fns,c.gn⟩ tg t && ckI c src it &&
       ckG ⟨maskN ts c.N++ts,sc,c.fns,c.gn⟩ ifs il && ckE ⟨maskN ts c.N++ts,sc,c.fns,c.gn⟩ elt ex && !isPk elt
    | none=>false)
def ckEs (c:Ck):Es→List Expr→Bool
 | .nil,xs=>on0 xs true
 | .cons e es,xs=>onS xs fun y ys=>ckE c e y && ckEs c es ys
def ckO (c:Ck):Eo→Option Expr→Bool
 | .no,x=>x.isNone
 | .yes e,x=>onO x fun y=>ckE c e y && !isPk e
def ckG (c:Ck):Eo→List Expr→Bool
 | .no,x=>on0 x true
 | .yes e,x=>on1 x fun y=>ckE c e y
def ckI (c:Ck):It→Expr→Bool
 | .rng e,x=>onCN x fun n xs=>on1 xs fun y=>decide (n = ("range":Str)) && globIs c n && ckE c e y && !isPk e
 | .rng2 a b,x=>onCN x fun n xs=>on2 xs fun y z=>decide (n = ("range":Str)) && globIs c n && ckE c a y && ckE c b z && !isPk a && !isPk b
 | .sq e,x=>ckE c e x && !isPk e
end
theorem ckEs_cons {c:Ck} {es:Es} {y:Expr} {ys:List Expr} (h:ckEs c es (y::ys) = true):∃ e es',es = .cons e es'∧ckE c e y = true∧ckEs c es' ys = true:=by
 cases es with
 | nil=>cases (on0_of h).1
 | cons e es =>
   obtain ⟨_,_,q,h'⟩:=onS_of h
   cases q
   rw [Bool.and_eq_true] at h'
   exact ⟨e,es,rfl,h'⟩
theorem tg_shape {c:Ck} {tg:Tg} {t:Expr} (h:ckTg c tg t = true):(∃ x p,t = .Name x p)∨∃ es n p,t = .Tuple es n p:=by
 cases tg with
 | nm i=>obtain ⟨x,p,rfl,_⟩:=onName_of h;exact .inl ⟨x,p,rfl⟩
 | tp is=>obtain ⟨es,n,p,rfl,_⟩:=onTup_of h;exact .inr ⟨es,n,p,rfl⟩
 | pr i is=>obtain ⟨es,n,p,rfl,_⟩:=onTup_of h;exact .inr ⟨es,n,p,rfl⟩
theorem hdN {x:Expr} {k:Str→Bool} (h:onName x k = true):headOk x = true:=by obtain ⟨_,_,rfl,_⟩:=onName_of h;rfl
theorem hdC {x:Expr} {k:Const→Bool} (h:onC x k = true):headOk x = true:=by obtain ⟨_,_,_,rfl,_⟩:=onC_of h;rfl
theorem hdF {x:Expr} {k:Str→List Expr→Bool} (h:onCN x k = true):headOk x = true:=by obtain ⟨_,_,_,_,rfl,_⟩:=onCN_of h;rfl
theorem hdM {x:Expr} {k:Expr→Str→List Expr→Bool} (h:onM x k = true):headOk x = true:=by obtain ⟨_,_,_,_,_,rfl,_⟩:=onM_of h;rfl
theorem hdB {x:Expr} {k:PySem.BoolOp→List Expr→Pos→Bool} (h:onBo x k = true):headOk x = true:=by obtain ⟨_,_,_,rfl,_⟩:=onBo_of h;rfl
theorem hdU {x:Expr} {k:PySem.UnaryOp→Expr→Bool} (h:onUn x k = true):headOk x = true:=by obtain ⟨_,_,_,rfl,_⟩:=onUn_of h;rfl
theorem hdS {x:Expr} {k:Expr→Expr→Bool} (h:onSub x k = true):headOk x = true:=by obtain ⟨_,_,_,rfl,_⟩:=onSub_of h;rfl
theorem ck_head {c:Ck} {e:E} {x:Expr} (h:ckE c e x = true):headOk x = true:=by
 cases e with
 | var i=>exact hdN h
 | pk i=>exact hdN h
 | glob g=>exact hdN h
 | int i=>exact hdC h
 | bl b=>exact hdC h
 | non=>exact hdC h
 | str t=>exact hdC h
 | bin op a b=>obtain ⟨_,_,_,_,rfl,_⟩:=onBin_of h;rfl
 | cmp op a b=>obtain ⟨_,_,_,_,rfl,_⟩:=onCmp_of h;rfl
 | and a b=>exact hdB h
 | or a b=>exact hdB h
 | not a=>exact hdU h
 | neg a=>exact hdU h
 | ite k a b=>obtain ⟨_,_,_,_,rfl,_⟩:=onIf_of h;rfl
 | tup es=>obtain ⟨_,_,_,rfl,_⟩:=onTup_of h;rfl
 | lst es=>obtain ⟨_,_,rfl,_⟩:=onLst_of h;rfl
 | ix a b=>exact hdS h
 | sl a lo hi=>exact hdS h
 | call f es=>exact hdF h
 | blt f es=>exact hdF h
 | pop i=>exact hdM h
 | bad=>exact h
 | comp k tg src ifs elt=>obtain ⟨_,_,_,_,rfl,_⟩:=onLC_of h;rfl
theorem head_star {x:Expr} (h:headOk x = true) (xs:List Expr) (env:Env):starEach (x::xs) env = (false,eval x env)::starEach xs env:=by
 cases x<;>first | rfl | (exact absurd h Bool.false_ne_true)
theorem head_set {x:Expr} (h:headOk x = true) (env:Env) (v:Value):foldedSetIterable x env v = pure v:=by
 cases x<;>first | rfl | (exact absurd h Bool.false_ne_true)
theorem head_mark {x:Expr} (h:headOk x = true) (op:CmpOp):behindInMarks op x = false:=by
 cases x<;>first | rfl | (exact absurd h Bool.false_ne_true)
theorem head_ix {x:Expr} (h:headOk x = true):L2.PlainIx x:=by
 intro o i
 cases x<;>first | rfl | (exact absurd h Bool.false_ne_true)
def isComp:Expr→Bool
 | .ListComp .. => true
 | _=>false
theorem head_swaps {x:Expr} (h:headOk x = true) (hc:isComp x = false) (t:Option Expr) (n:Nat) (env:Env):swapsWith x t n env = pure false:=by
 cases x<;>first | rfl | (exact absurd h Bool.false_ne_true) | (exact absurd hc.symm Bool.false_ne_true)
def isCmpE:E→Bool
 | .comp .. => true
 | _=>false
@[irreducible] def onNP (x:Expr) (k:Str→Pos→Bool):Bool:=(tagE x == 0) && k (st x) (po x)
theorem onNP_of {x:Expr} {k:Str→Pos→Bool} (h:onNP x k = true):∃ y p,x = .Name y p∧k y p = true:=by
 unfold onNP at h
 obtain ⟨⟨y,p,rfl⟩,h⟩:=invE_of h
 exact ⟨y,p,rfl,h⟩
def isPB (x:Stmt) (n:Nat):Bool:=match x with
 | .Pass _=>n == 0
 | .Break _=>n == 1
 | .Continue _=>n == 2
 | _=>false
theorem isPB_of {x:Stmt} {n:Nat} (h:isPB x n = true):∃ p,(n = 0∧x = .Pass p)∨(n = 1∧x = .Break p)∨(n = 2∧x = .Continue p):=by
 cases x<;>first | (cases h;done) | skip
 · exact ⟨_,.inl ⟨eq_of_beq h,rfl⟩⟩
 · exact ⟨_,.inr (.inl ⟨eq_of_beq h,rfl⟩)⟩
 · exact ⟨_,.inr (.inr ⟨eq_of_beq h,rfl⟩)⟩
def newOk:E→Bool
 | .lst _=>true
 | .blt .toLst _=>true
 | .sl _ _ _=>true
 | _=>false
def isNm (x:Expr):Bool:=tagE x == 0
def isTp (x:Expr):Bool:=tagE x == 7
mutual
def ckS (c:Ck):S→Stmt→Bool
 | .asg tg e,x=>onAsg x fun ts y=>on1 ts fun t=>ckTg c tg t && ckE c e y && !isPk e && !isComp y && (isNm t || !isTp y)
 | .new i e,x=>onAsg x fun ts y=>on1 ts fun t=>onName t fun t=>nameTo c i t && ckE c e y && !isComp y && newOk e
 | .cmp _ i e,x=>isCmpE e && onAsg x fun ts y=>on1 ts fun t=>onNP t fun t tp=>onLC y fun ex gs sc p=>nameTo c i t && ckE c e (.ListComp ex gs sc p) && decide (c.sc.names.lookup t = some .local) && decide (tp.line = p.line) && !(sc.names.any fun (n,k)=>n == t && (k == .local || k == .cell))
 | .ret e,x=>onRet x fun y=>onO y fun y=>ckE c e y && !isPk e
 | .retN,x=>onRet x fun y=>y.isNone
 | .ifs k a b,x=>onIfS x fun t y z=>ckE c k t && ckSs c a y && ckSs c b z
 | .for_ tg src body,x=>onFor x fun t it y z=>on0 z (ckTg c tg t && ckI c src it && ckSs c body y)
 | .forZ tg es body,x=>onFor x fun t it y z=>on0 z (onCN it fun n xs=>on2 xs fun u v=>isTp t && decide (n = ("zip":Str)) && globIs c n && ckTg c tg t && ckEs c es [u,v] && noPk es && ckSs c body y)
 | .while_ k body,x=>onWh x fun t y z=>on0 z (ckE c k t && ckSs c body y)
 | .append i e,x=>onEx x fun w=>onM w fun y m as=>onName y fun y=>on1 as fun z=>decide (m = ("append":Str)) && nameIs c i y && ckE c e z && !isPk e
 | .extend i e,x=>onEx x fun w=>onM w fun y m as=>onName y fun y=>on1 as fun z=>decide (m = ("extend":Str)) && nameIs c i y && ckE c e z && !isPk e
 | .setix i j e,x=>onAsg x fun ts y=>on1 ts fun t=>onSub t fun w z=>onName w fun t=>nameIs c i t && ckE c e y && !isPk e && !isComp y && ckE c j z && !isPk j
 | .opq _,_=>false
 | .bad,_=>true
 | .pass,x=>isPB x 0
 | .brk,x=>isPB x 1
 | .cont,x=>isPB x 2
def ckSs (c:Ck):Ss→List Stmt→Bool
 | .nil,xs=>on0 xs true
 | .cons s ss,xs=>onS xs fun y ys=>ckS c s y && ckSs c ss ys
end
end PP
end
section
namespace PP
open PySem L2 PyProof.Rows
variable [Tbs]
def PostE (K:PySem.W.Frag) (G:Gh) (F:Addr→Prop) (σ:L2.St) (H:Hp) (m nP:Bool) (d:D) (δ':Loc) (Q:VK):Prop :=
 ∀ v H' F',Step G F H F' H'→(nP = true→Sim H H')→Ok K G F' σ H' δ'→RelM m K H' F' d v→Q v H'
def tE (K:PySem.W.Frag) (cx:Cl) (e:E):TE:=fun σ H Q=>∃ G F δ d δ',Ok K G F σ H δ∧evE cx e δ = some (d,δ')∧PostE K G F σ H (isPk e) (np e) d δ' Q
def tT (K:PySem.W.Frag) (cx:Cl) (e:E):TT:=fun σ H Q=>∃ G F δ b δ',Ok K G F σ H δ∧evT cx e δ = some (b,δ') ∧
 ∀ H' F',Step G F H F' H'→(np e = true→Sim H H')→Ok K G F' σ H' δ'→Q b H'
def RelML (K:PySem.W.Frag) (H:Hp) (F:Addr→Prop):Es→List D→List V→Prop
 | .nil,ds,vs=>ds = []∧vs = []
 | .cons e es,ds,vs=>∃ d ds' v vs',ds = d::ds'∧vs = v::vs'∧RelM (isPk e) K H F d v∧RelML K H F es ds' vs'
def tEs (K:PySem.W.Frag) (cx:Cl) (es:Es):TA:=fun σ H Q=>∃ G F δ ds δ',Ok K G F σ H δ∧evEs cx es δ = some (ds,δ') ∧
 ∀ vs H' F',Step G F H F' H'→(npS es = true→Sim H H')→Ok K G F' σ H' δ'→RelML K H' F' es ds vs→Q vs H'
def tO (K:PySem.W.Frag) (cx:Cl) (o:Eo):TO:=fun σ H Q=>∃ G F δ d δ',Ok K G F σ H δ∧evO cx o δ = some (d,δ') ∧
 ∀ H' F',Step G F H F' H'→(npO o = true→Sim H H')→Ok K G F' σ H' δ'→Q d H'
def tG (K:PySem.W.Frag) (cx:Cl) (o:Eo):TT:=fun σ H Q=>∃ G F δ b δ',Ok K G F σ H δ∧evG cx o δ = some (b,δ') ∧
 ∀ H' F',Step G F H F' H'→(npO o = true→Sim H H')→Ok K G F' σ H' δ'→Q b H'
def Wk (K:PySem.W.Frag) (G:Gh) (F:Addr→Prop) (H:Hp) (J:L2.It) (ds:List D):Prop:=∀ F2 H2,Step G F H F2 H2→FD F2 H2→∀ i:Nat,
 (∀ d,ds[i]? = some d→J.go i H2∧∀ x H3,J.yld i H2 x H3→H3 = H2∧Rel K H2 F2 d x)∧(i = ds.length→J.stop i H2)
def tI (K:PySem.W.Frag) (cx:Cl) (t:It):TI:=fun σ H R=>∃ G F δ ds δ',Ok K G F σ H δ∧evI cx t δ = some (ds,δ') ∧
 ∀ J H' F',Step G F H F' H'→(npI t = true→Sim H H')→Ok K G F' σ H' δ'→(∀ G',Wk K G' F' H' J ds)→R J H'
section
variable {K:PySem.W.Frag} {cx:Cl} {X:Cx}
theorem PE.imp {e:Expr} {t t':TE} (h:PE X e t) (w:∀ σ H Q,t' σ H Q→t σ H Q):PE X e t':=fun pins s σ H Q I q=>h pins s σ H Q I (w σ H Q q)
theorem PT.imp {e:Expr} {t t':TT} (h:PT X e t) (w:∀ σ H Q,t' σ H Q→t σ H Q):PT X e t':=fun pins s σ H Q I q=>h pins s σ H Q I (w σ H Q q)
theorem two {a b:E} {σ:L2.St} {G:Gh} {H:Hp} {F:Addr→Prop} {δ δ1 δ2:Loc} {x y:D} (ok:Ok K G F σ H δ) (ea:evE cx a δ = some (x,δ1)) (eb:evE cx b δ1 = some (y,δ2)) (pc:(!isPk a || np b) = true) {R:V→V→Hp→Prop}
 (k:∀ v u H2 F2,Step G F H F2 H2→((np a && np b) = true→Sim H H2)→Ok K G F2 σ H2 δ2→RelM (isPk a) K H2 F2 x v→RelM (isPk b) K H2 F2 y u→R v u H2) :
 tE K cx a σ H fun v H1=>tE K cx b σ H1 fun u H2=>R v u H2:=by
 refine ⟨G,F,δ,x,δ1,ok,ea,fun v H1 F1 st1 sm1 ok1 r1=>⟨G,F1,δ1,y,δ2,ok1,eb,fun u H2 F2 st2 sm2 ok2 r2=>?_⟩⟩
 refine k v u H2 F2 (st1.trans st2) (fun z=>?_) ok2 (RelM.step ok1.fd st2 (fun z=>sm2 (by rw [z] at pc;simpa using pc)) r1) r2
 rw [Bool.and_eq_true] at z
 exact (sm1 z.1).trans (sm2 z.2)
theorem RelB.int {H:Hp} {F:Addr→Prop} {i:Int} {v:V} (h:RelB K H F (.int i) v):v = .int i:=by
 rcases h with h | ⟨_,_,_,e,_⟩
 · unfold Rel at h;exact h
 · cases e
theorem RelB.bl {H:Hp} {F:Addr→Prop} {i:Bool} {v:V} (h:RelB K H F (.bl i) v):v = .bl i:=by
 rcases h with h | ⟨_,_,_,e,_⟩
 · unfold Rel at h;exact h
 · cases e
theorem RelB.str {H:Hp} {F:Addr→Prop} {i:Str} {v:V} (h:RelB K H F (.str i) v):v = .str i:=by
 rcases h with h | ⟨_,_,_,e,_⟩
 · unfold Rel at h;exact h
 · cases e
theorem RelB.tup {H:Hp} {F:Addr→Prop} {ds:List D} {v:V} (h:RelB K H F (.tup ds) v):∃ a xs,v = .ref a∧SqT K H a xs∧RelL K H F ds xs:=by
 rcases h with h | ⟨_,_,_,e,_⟩
 · unfold Rel at h;exact h
 · cases e
theorem RelB.lst {H:Hp} {F:Addr→Prop} {ds:List D} {v:V} (h:RelB K H F (.lst ds) v):∃ a xs,v = .ref a∧LsB K H a xs∧RelL K H F ds xs:=by
 rcases h with h | ⟨a,xs,_,e,e2,h1,h2⟩
 · unfold Rel at h;obtain ⟨a,xs,e,h1,h2⟩:=h;exact ⟨a,xs,e,h1.b,h2⟩
 · cases e;exact ⟨a,xs,e2,.inl (.inl h1),h2⟩
theorem rel_int {H:Hp} {F:Addr→Prop} (i:Int):Rel K H F (.int i) (.int i):=by unfold Rel;rfl
theorem rel_bl {H:Hp} {F:Addr→Prop} (i:Bool):Rel K H F (.bl i) (.bl i):=by unfold Rel;rfl
theorem rel_str {H:Hp} {F:Addr→Prop} (i:Str):Rel K H F (.str i) (.str i):=by unfold Rel;rfl
theorem rel_non {H:Hp} {F:Addr→Prop}:Rel K H F .non .non:=by unfold Rel;rfl
theorem Ok.laid {σ:L2.St} {G:Gh} {H:Hp} {F:Addr→Prop} {δ:Loc} {p:Addr} (ok:Ok K G F σ H δ) (hp:H p = none) (o:HO):Ok K G F σ (upd H p o) δ∧Step G F H F (upd H p o)∧Sim H (upd H p o)∧¬ F p :=
 ⟨ok.same' (same_new hp o),Step.of_same (same_new hp o),.of (same_new hp o),ok.fd.none hp⟩
theorem rel_newTup {σ:L2.St} {G:Gh} {H:Hp} {F:Addr→Prop} {δ:Loc} {p:Addr} {ds:List D} {xs:List V} (ok:Ok K G F σ H δ) (hp:H p = none) (r:RelL K H F ds xs):Rel K (upd H p (.tup xs)) F (.tup ds) (.ref p):=by
 unfold Rel
 exact ⟨p,xs,rfl,SqT.of upd_same,RelL.step (G:=G) ok.fd (Step.of_same (same_new hp _)) ds xs r⟩
theorem rel_newLst {σ:L2.St} {G:Gh} {H:Hp} {F:Addr→Prop} {δ:Loc} {p:Addr} {ds:List D} {xs:List V} (ok:Ok K G F σ H δ) (hp:H p = none) (r:RelL K H F ds xs):Rel K (upd H p (.lst xs)) F (.lst ds) (.ref p):=by
 unfold Rel
 exact ⟨p,xs,rfl,.inl ⟨.inl upd_same,(ok.laid hp (.lst xs)).2.2.2⟩,RelL.step (G:=G) ok.fd (Step.of_same (same_new hp _)) ds xs r⟩
theorem snd_bin {a b:E} {y z:Expr} {op:Op} {o:Operator} {pos:Pos} (ho:opIs op o = true) (pc:(!isPk a || np b) = true) (ha:PE X y (tE X.K cx a)) (hb:PE X z (tE X.K cx b)):PE X (.BinOp y o z pos) (tE X.K cx (.bin op a b)):=by
 intro pins s σ H Q I h
 obtain ⟨G,F,δ,d,δ',ok,ev,post⟩:=h
 simp only [evE,Option.bind_eq_bind,Option.bind_eq_some_iff] at ev
 obtain ⟨⟨x,δ1⟩,ea,⟨y',δ2⟩,eb,d',hd,e⟩:=ev
 cases e
 dsimp only at eb hd post
 have fin:∀ v H2 F2,Step G F H F2 H2→((np a && np b) = true→Sim H H2)→Ok X.K G F2 σ H2 δ2→Rel X.K H2 F2 d v→Q v H2:=fun v H2 F2 st sm ok2 r=>post v H2 F2 st sm ok2 r
 cases op<;>cases o<;>first | (exact absurd ho Bool.false_ne_true) | skip
 · refine pe_op (op_add.or (op_add_str.or (op_catT.or (op_catE.or op_catR)))) ha hb pins s σ H Q I (two ok ea eb pc fun v u H2 F2 st sm ok2 r1 r2=>?_)
   change addD x y' = some d at hd
   unfold addD at hd
   split at hd
   · cases hd
     have e1:=r1.b.int;have e2:=r2.b.int;subst e1;subst e2
     exact .inl ⟨_,_,rfl,rfl,fin _ _ _ st sm ok2 (rel_int _)⟩
   · split at hd
     · cases hd
       have e1:=r1.b.str;have e2:=r2.b.str;subst e1;subst e2
       exact .inr (.inl ⟨_,_,rfl,rfl,‹_›,fin _ _ _ st sm ok2 (rel_str _)⟩)
     · cases hd
   · cases hd
     obtain ⟨p1,xs1,e1,s1,l1⟩:=r1.b.tup
     obtain ⟨p2,xs2,e2,s2,l2⟩:=r2.b.tup
     subst e1;subst e2
     unfold RelL at l1
     subst l1
     refine .inr (.inr (.inr (.inl ⟨p1,p2,xs2,rfl,rfl,s1,s2,fin _ _ _ st sm ok2 ?_⟩)))
     unfold Rel
     exact ⟨p2,xs2,rfl,s2,l2⟩
   · split at hd
     · rename_i q
       cases hd
       obtain ⟨p1,xs1,e1,s1,l1⟩:=r1.b.tup
       obtain ⟨p2,xs2,e2,s2,l2⟩:=r2.b.tup
       subst e1;subst e2
       refine .inr (.inr (.inl ⟨p1,p2,xs1,xs2,rfl,rfl,s1,s2,fun z=>?_,by rw [l1.length,l2.length];exact q,fun z=>?_,fun _ p hp=>?_⟩))
       · have:=l1.length;rw [z] at this;cases this
       · refine fin _ _ _ st sm ok2 ?_
         have e:∀ {ys:List D},RelL X.K H2 F2 ys xs2→ys = []:=fun {ys} r=>by have:=r.length;rw [z] at this;exact List.length_eq_zero_iff.mp this.symm
         have:=e l2
         subst this
         rw [List.append_nil]
         unfold Rel
         exact ⟨p1,xs1,rfl,s1,l1⟩
       · obtain ⟨o1,o2,o3,o4⟩:=ok2.laid hp (.tup (xs1++xs2))
         exact fin _ _ _ (st.trans o2) (fun z=>(sm z).trans o3) o1 (rel_newTup ok2 hp (l1.append l2))
     · cases hd
   · split at hd
     · rename_i q
       cases hd
       obtain ⟨p1,xs1,e1,s1,l1⟩:=r1.b.lst
       obtain ⟨p2,xs2,e2,s2,l2⟩:=r2.b.lst
       subst e1;subst e2
       refine .inr (.inr (.inr (.inr ⟨p1,p2,xs1,xs2,rfl,rfl,s1,s2,by rw [l1.length,l2.length];exact q,fun p hp=>?_⟩)))
       obtain ⟨o1,o2,o3,o4⟩:=ok2.laid hp (.lst (xs1++xs2))
       exact fin _ _ _ (st.trans o2) (fun z=>(sm z).trans o3) o1 (rel_newLst ok2 hp (l1.append l2))
     · cases hd
   · cases hd
 · refine pe_op op_sub ha hb pins s σ H Q I (two ok ea eb pc fun v u H2 F2 st sm ok2 r1 r2=>?_)
   change subD x y' = some d at hd
   unfold subD at hd
   split at hd<;>first | (cases hd;done) | skip
   cases hd
   have e1:=r1.b.int;have e2:=r2.b.int;subst e1;subst e2
   exact ⟨_,_,rfl,rfl,fin _ _ _ st sm ok2 (rel_int _)⟩
 · refine pe_op (op_mulB.or op_mulS) ha hb pins s σ H Q I (two ok ea eb pc fun v u H2 F2 st sm ok2 r1 r2=>?_)
   change mulD x y' = some d at hd
   unfold mulD at hd
   split at hd<;>first | (cases hd;done) | skip
   · split at hd
     · rename_i q
       cases hd
       have e1:=r1.b.int;have e2:=r2.b.int;subst e1;subst e2
       refine .inl ⟨_,_,rfl,rfl,?_,fin _ _ _ st sm ok2 (rel_int _)⟩
       exact mulB_ok q
     · cases hd
   · split at hd
     · rename_i q
       cases hd
       have e1:=r1.b.str;have e2:=r2.b.int;subst e1;subst e2
       exact .inr ⟨_,_,rfl,rfl,q,fin _ _ _ st sm ok2 (rel_str _)⟩
     · cases hd
 · refine pe_op op_mod ha hb pins s σ H Q I (two ok ea eb pc fun v u H2 F2 st sm ok2 r1 r2=>?_)
   change modD x y' = some d at hd
   unfold modD at hd
   split at hd<;>first | (cases hd;done) | skip
   split at hd
   · rename_i q
     cases hd
     have e1:=r1.b.int;have e2:=r2.b.int;subst e1;subst e2
     exact ⟨_,_,rfl,rfl,q,fin _ _ _ st sm ok2 (rel_int _)⟩
   · cases hd
 · refine pe_op op_fdivB ha hb pins s σ H Q I (two ok ea eb pc fun v u H2 F2 st sm ok2 r1 r2=>?_)
   change fdivD x y' = some d at hd
   unfold fdivD at hd
   split at hd<;>first | (cases hd;done) | skip
   split at hd
   · rename_i q
     cases hd
     have e1:=r1.b.int;have e2:=r2.b.int;subst e1;subst e2
     exact ⟨_,_,rfl,rfl,q,fin _ _ _ st sm ok2 (rel_int _)⟩
   · cases hd
 · refine pe_op op_pow ha hb pins s σ H Q I (two ok ea eb pc fun v u H2 F2 st sm ok2 r1 r2=>?_)
   change powD x y' = some d at hd
   unfold powD at hd
   split at hd<;>first | (cases hd;done) | skip
   split at hd
   · rename_i q
     cases hd
     have e1:=r1.b.int;have e2:=r2.b.int;subst e1;subst e2
     exact ⟨_,_,rfl,rfl,q,fin _ _ _ st sm ok2 (rel_int _)⟩
   · cases hd
end
end PP
end
section
namespace PP
open PySem L2 PySem.SeqAt PyProof.Rows PySem.W
variable [Tbs]
theorem sortable_inv {ds:List D} (h:sortable ds = true):ds.length < 64∧(∀ x∈ds,headK x≠0∧headK x = headK (ds.getD 0 .non))∧∀ x∈ds,∀ y∈ds,∃ k,ltOk x y = some k:=by
 unfold sortable at h
 simp only [Bool.and_eq_true,List.all_eq_true,decide_eq_true_eq] at h
 obtain ⟨⟨h1,h2⟩,h3⟩:=h
 refine ⟨h1,fun x hx=>?_,fun x hx y hy=>Option.isSome_iff_exists.mp (h3 x hx y hy)⟩
 have:=h2 x hx
 exact ⟨by simpa using this.1,by simpa using this.2⟩
theorem sortL_len (ds:List D):(sortL ds).length = ds.length:=by
 unfold sortL
 by_cases h:ds.length < 2
 · rw [if_pos h]
 · rw [if_neg h,List.length_map,(sort_list ds.length).length_eq,List.length_range]
theorem RelL_map {K:PySem.W.Frag} {H:Hp} {F:Addr→Prop} {ds:List D} {xs:List V} (r:RelL K H F ds xs):∀ (is:List Nat),(∀ i∈is,i < ds.length)→RelL K H F (is.map fun i=>ds.getD i .non) (is.map fun i=>xs.getD i .non)
 | [],_=>RelL.nil
 | i::is,h=>by
   have hi:=h i List.mem_cons_self
   obtain ⟨v,hv,rv⟩:=r.get (i:=i) (d:=ds.getD i .non) (by simp [hi])
   have e:xs.getD i .non = v:=by simp [hv]
   rw [List.map_cons,List.map_cons,e]
   exact RelL.cons rv (RelL_map r is fun j hj=>h j (List.mem_cons_of_mem _ hj))
theorem Vals_map {xs:List V} {us:List Value} (r:Vals xs us):∀ (is:List Nat),(∀ i∈is,i < xs.length)→Vals (is.map fun i=>xs.getD i .non) (is.map fun i=>us.getD i Value.none)
 | [],_=>.nil
 | i::is,h=>by
   have hi:=h i List.mem_cons_self
   obtain ⟨u,hu,ru⟩:=r.get (i:=i) (x:=xs.getD i .non) (by simp [hi])
   have e:us.getD i Value.none = u:=by simp [hu]
   rw [List.map_cons,List.map_cons,e]
   exact .cons ru (Vals_map r is fun j hj=>h j (List.mem_cons_of_mem _ hj))
theorem kind_D {M:Model} {A:Around} {E:Value→Shared→Prop} {s:Shared} {ds:List D} {us:List Value} (r:RdL s.heap ds us) (hk:∀ x∈ds,headK x≠0∧headK x = headK (ds.getD 0 .non)) (h2:2≤us.length) {Q:SortKind→Shared→Prop}
 (q:Q (if headK (ds.getD 0 .non) < 3 then oneType' else tuples' true) s):wpAny M A (keyKind' us.toArray) Q E s:=by
 have hl:=r.length
 have all:∀ v∈us,∃ d∈ds,RdV s.heap d v:=by
  have:∀ (ds:List D) (us:List Value),RdL s.heap ds us→∀ v∈us,∃ d∈ds,RdV s.heap d v:=by
   intro ds
   induction ds with
   | nil=>intro us r v hv;unfold RdL at r;subst r;cases hv
   | cons d ds ih =>
     intro us r v hv
     unfold RdL at r
     obtain ⟨w,ws,rfl,r1,r2⟩:=r
     rcases List.mem_cons.mp hv with rfl | hv
     · exact ⟨d,List.mem_cons_self,r1⟩
     · obtain ⟨d',h1,h2⟩:=ih ws r2 v hv
       exact ⟨d',List.mem_cons_of_mem _ h1,h2⟩
  exact this ds us r
 generalize hn:headK (ds.getD 0 .non) = n at hk q
 have tups:∀ (T:Value) (P:D→Prop),(∀ d,P d→∀ u,RdV s.heap d u→Looks M s.heap (typeOf u) T)→(∀ x∈ds,∃ y r,x = .tup (y::r)∧P y)→∃ fs,KatTups s.heap us fs∧fs.length = us.length∧∀ v∈fs,Looks M s.heap (typeOf v) T:=by
  intro T P hP hx
  have:∀ (ds:List D) (us:List Value),RdL s.heap ds us→(∀ x∈ds,∃ y r,x = .tup (y::r)∧P y)→∃ fs,KatTups s.heap us fs∧fs.length = us.length∧∀ v∈fs,Looks M s.heap (typeOf v) T:=by
   intro ds
   induction ds with
   | nil=>intro us r _;unfold RdL at r;subst r;exact ⟨[],KatTups.nil,rfl,fun v hv=>by cases hv⟩
   | cons d ds ih =>
     intro us r hx
     unfold RdL at r
     obtain ⟨w,ws,rfl,r1,r2⟩:=r
     obtain ⟨fs,f1,f2,f3⟩:=ih ws r2 fun x h=>hx x (List.mem_cons_of_mem _ h)
     obtain ⟨y,rr,rfl,py⟩:=hx d List.mem_cons_self
     unfold RdV at r1
     obtain ⟨a,its,rfl,⟨o,h1,hc,m,hd⟩,h3⟩:=r1
     unfold RdL at h3
     obtain ⟨f,fr,e,g1,g2⟩:=h3
     refine ⟨f::fs,KatTups.cons h1 hc hd ?_ f1,by simp [f2],fun v hv=>?_⟩
     · have:its.toList[0]? = some f:=by rw [e];rfl
       simpa using this
     · rcases List.mem_cons.mp hv with rfl | hv
       · exact hP y py _ g1
       · exact f3 v hv
  exact this ds us r hx
 match n,hk,q with
 | 0,hk,q =>
   obtain ⟨x,hx⟩:∃ x,x∈ds:=by
    cases ds with
    | nil=>rw [hl] at h2;simp at h2
    | cons x r=>exact ⟨x,List.mem_cons_self⟩
   exact absurd (hk x hx).2 (hk x hx).1
 | 1,hk,q =>
   refine kas_kind (T:=.type "str") h2 (fun v hv=>?_) (by decide) (by decide) q
   obtain ⟨d,hd,rd⟩:=all v hv
   have:=(hk d hd).2
   cases d<;>first | (simp [headK] at this;done) | skip
   · unfold RdV at rd
     obtain ⟨t,rfl⟩:=rd
     exact Looks.of_pure rfl
   · rename_i l;cases l with
     | nil=>simp [headK] at this
     | cons x r=>cases x<;>simp [headK] at this
 | 2,hk,q =>
   refine kas_kind (T:=.type "int") h2 (fun v hv=>?_) (by decide) (by decide) q
   obtain ⟨d,hd,rd⟩:=all v hv
   have:=(hk d hd).2
   cases d<;>first | (simp [headK] at this;done) | skip
   · unfold RdV at rd
     obtain ⟨t,rfl⟩:=rd
     exact Looks.of_pure rfl
   · rename_i l;cases l with
     | nil=>simp [headK] at this
     | cons x r=>cases x<;>simp [headK] at this
 | 3,hk,q =>
   obtain ⟨fs,f1,f2,f3⟩:=tups (.type "str") (fun y=>∃ x,y = .str x) (fun d ⟨x,e⟩ u rd=>by subst e;unfold RdV at rd;obtain ⟨t,rfl⟩:=rd;exact Looks.of_pure rfl) fun x hx=>by
    have:=(hk x hx).2
    cases x<;>first | (simp [headK] at this;done) | skip
    rename_i l;cases l with
    | nil=>simp [headK] at this
    | cons x r=>cases x<;>first | (simp [headK] at this;done) | exact ⟨_,_,rfl,_,rfl⟩
   exact kat_kind f1 (by omega) f3 (by decide) q
 | 4,hk,q =>
   obtain ⟨fs,f1,f2,f3⟩:=tups (.type "int") (fun y=>∃ x,y = .int x) (fun d ⟨x,e⟩ u rd=>by subst e;unfold RdV at rd;obtain ⟨t,rfl⟩:=rd;exact Looks.of_pure rfl) fun x hx=>by
    have:=(hk x hx).2
    cases x<;>first | (simp [headK] at this;done) | skip
    rename_i l;cases l with
    | nil=>simp [headK] at this
    | cons x r=>cases x<;>first | (simp [headK] at this;done) | exact ⟨_,_,rfl,_,rfl⟩
   exact kat_kind f1 (by omega) f3 (by decide) q
 | m+5,hk,q =>
   obtain ⟨x,hx⟩:∃ x,x∈ds:=by
    cases ds with
    | nil=>rw [hl] at h2;simp at h2
    | cons x r=>exact ⟨x,List.mem_cons_self⟩
   have:=(hk x hx).2
   exfalso
   cases x<;>first | (simp [headK] at this;done) | skip
   rename_i l;cases l with
   | nil=>simp [headK] at this
   | cons x r=>cases x<;>simp [headK] at this
theorem depL_of:∀ {ds:List D},(∀ x∈ds,dep x < 100000)→depL ds < 100000
 | [],_=>by unfold depL;omega
 | d::ds,h=>by
   have h1:=h d List.mem_cons_self
   have h2:=depL_of fun x hx=>h x (List.mem_cons_of_mem _ hx)
   unfold depL
   omega
theorem sortable_dep {ds:List D} (hs:sortable ds = true):depL ds < 100000:=by
 obtain ⟨_,_,hlt⟩:=sortable_inv hs
 refine depL_of fun x hx=>?_
 obtain ⟨b,hb⟩:=hlt x hx x hx
 unfold ltOk at hb
 split at hb
 · omega
 · cases hb
theorem ask_D {prog:Program} {w:World} {A A':Around} {s:Shared} {h':Heap} {ds:List D} {its:List Value} (hu:A.units+200 < cLine) (hA:A'.units≤A.units+2) (rd:RdL s.heap ds its) (l3:its.length = ds.length) (hs:sortable ds = true)
 (k:∀ b o,s.heap.get? b = some o→h'.get? b = some o) (i j:Nat) (hi:i < its.length) (hj:j < its.length) (C:Bool→Shared→Prop) (c:C (ltIx ds i j) { s with heap:=h' }) :
 kas_ask prog w A' (if headK (ds.getD 0 .non) < 3 then oneType' else tuples' true) its i j C { s with heap:=h' }:=by
 obtain ⟨h64,hk,hlt⟩:=sortable_inv hs
 have mem:∀ i,i < its.length→ds.getD i .non∈ds:=fun i hi=>by
  have:i < ds.length:=by omega
  rw [List.getD_eq_getElem?_getD,List.getElem?_eq_getElem this]
  exact List.getElem_mem this
 obtain ⟨b,hb⟩:=hlt _ (mem i hi) _ (mem j hj)
 have eb:ltIx ds i j = b:=by unfold ltIx;rw [hb];rfl
 rw [eb] at c
 have ri:=RdV.keep k _ _ (RdL.nth i rd (by omega))
 have rj:=RdV.keep k _ _ (RdL.nth j rd (by omega))
 have ki:=hk _ (mem i hi)
 have kj:=hk _ (mem j hj)
 unfold ltOk at hb
 split at hb
 · rename_i hd
   unfold kas_ask
   generalize ds.getD i .non = x at ri hb hd ki
   generalize ds.getD j .non = y at rj hb hd kj
   generalize its.getD i Value.none = u at ri
   generalize its.getD j Value.none = v at rj
   generalize headK (ds.getD 0 .non) = n0 at ki kj
   by_cases h3:n0 < 3
   · rw [if_pos h3,keyLt'_oneType]
     refine one_D (s:={ s with heap:=h' }) ri rj ?_ hb c
     have:=ki.1
     have k1:n0 = 1∨n0 = 2:=by omega
     rcases k1 with k1 | k1
     · exact .inl ⟨by omega,by omega⟩
     · exact .inr ⟨by omega,by omega⟩
   · rw [if_neg h3]
     have tx:∀ z:D,headK z = n0→∃ p r,z = .tup (p::r)∧((n0 = 3∧headK p = 1)∨(n0 = 4∧headK p = 2)):=fun z hz=>by
      cases z<;>first | (simp [headK] at hz;omega) | skip
      rename_i l
      cases l with
      | nil=>simp [headK] at hz;omega
      | cons p r=>cases p<;>first | (simp [headK] at hz;omega) | exact ⟨_,_,rfl,by simp [headK] at hz ⊢;omega⟩
     obtain ⟨p1,r1,rfl,w1⟩:=tx x ki.2
     obtain ⟨p2,r2,rfl,w2⟩:=tx y kj.2
     unfold RdV at ri rj
     obtain ⟨a1,i1,rfl,⟨o1,g1,c1,m1,d1⟩,t1⟩:=ri
     obtain ⟨a2,i2,rfl,⟨o2,g2,c2,m2,d2⟩,t2⟩:=rj
     have z1:i1.size = (p1::r1).length:=by simpa using t1.length
     have z2:i2.size = (p2::r2).length:=by simpa using t2.length
     unfold ltD at hb
     unfold dep at hd
     refine kat_lt (s:={ s with heap:=h' }) g1 d1 g2 d2 (katLex_D (s:={ s with heap:=h' }) (p1::r1) (p2::r2) i1.toList i2.toList 0 t1 t2 (by omega) hb (by rw [z1,z2]) (fun _ x y hx hy=>?_) c)
     cases hx
     cases hy
     rcases w1 with ⟨e,w1⟩ | ⟨e,w1⟩<;>rcases w2 with ⟨e',w2⟩ | ⟨e',w2⟩<;>first | (exact .inl ⟨w1,w2⟩) | (exact .inr ⟨w1,w2⟩) | omega
 · cases hb
theorem call_sortedD {X:Cx} (hu:X.A.units+200 < cLine):CallR X (.builtin "sorted") (fun xs H Q=>∃ F ds v,xs = [v]∧RelB X.K H F (.lst ds) v∧sortable ds = true∧∀ p ys,H p = none→RelL X.K H F (sortL ds) ys→Q (.ref p) (upd H p (.lst ys))):=by
 intro pins s σ H xs us Q I r h
 obtain ⟨F,ds,v,rfl,rb,hs,q⟩:=h
 obtain ⟨a,ws,rfl,hl,rl⟩:=rb.lst
 obtain ⟨u,rfl,rx⟩:=vals1 r
 cases rx
 obtain ⟨its,n,rv,ho,hz⟩:=hl.obj I
 obtain ⟨h64,hk,hlt⟩:=sortable_inv hs
 have rd:=rdL_of I ds ws its rl rv (sortable_dep hs)
 have l1:=rl.length
 have l2:=rv.length
 have l3:its.length = ds.length:=by omega
 have isl:s.heap.IsList a its.toArray:=⟨_,ho,rfl,n,rfl⟩
 have out:outOf (ltIx ds) its = (if its.length < 2 then its else (ans (ltIx ds) (kas_sort its.length)).toList.map fun i=>its.getD i Value.none):=rfl
 have hlen:(outOf (ltIx ds) its).length = its.length:=by
  rw [out]
  by_cases h:its.length < 2
  · rw [if_pos h]
  · rw [if_neg h,List.length_map,(sort_list its.length).length_eq,List.length_range]
 have small:∀ i∈(ans (ltIx ds) (kas_sort its.length)).toList,i < its.length:=fun i hi=>by simpa using (sort_list its.length).mem_iff.mp hi
 -- the values in their new places
 have hv:∃ ys,Vals ys (outOf (ltIx ds) its)∧RelL X.K H F (sortL ds) ys:=by
  rw [out]
  unfold sortL
  by_cases h:its.length < 2
  · rw [if_pos h,if_pos (by omega)]
    exact ⟨ws,rv,rl⟩
  · rw [if_neg h,if_neg (by omega),← l3]
    exact ⟨_,Vals_map rv _ fun i hi=>by rw [l2];exact small i hi,RelL_map rl _ fun i hi=>by rw [← l3];exact small i hi⟩
 obtain ⟨ys,vy,ry⟩:=hv
 refine sorted_by (lt:=ltIx ds) (κ:=if headK (ds.getD 0 .non) < 3 then oneType' else tuples' true) isl (by omega) hlen (fun h2 A' h' hA k C c=>?_) (fun A' h' hA k i j hi hj C c=>?_) ?_
 · exact kind_D (s:={ s with heap:=h' }) (RdL.keep k ds its rd) hk h2 c
 · exact ask_D hu hA rd l3 hs k i j hi hj C c
 · obtain ⟨e,he⟩:=sortedAll_at s.heap its (outOf (ltIx ds) its).toArray
   refine ⟨.ref (s.heap.objs.size+1),upd H (s.heap.objs.size+1) (.lst ys),I.laid (t':=s.toks) (fun b u hb=>sortedAll_old hb) (Nat.le_succ _) ⟨?_,_,e,vy,he⟩,rfl,q _ _ (I.hok.fresh (Nat.le_succ _)) ry⟩
   rw [ry.length,sortL_len,sizeLine_eq]
   omega
end PP
end
section
namespace PP
open PySem PySem.W PyProof.Rows
section
variable {prog:Program} {w:World} {A:Around} {E:Value→Shared→Prop} {s:Shared}
end
end PP
end
section
namespace PP
open PySem L2 PySem.SeqAt PyProof.Rows PySem.W
variable [Tbs]
end PP
end
section
namespace PP
open PySem L2 PyProof.Rows
variable [Tbs]
section
variable {K:PySem.W.Frag} {cx:Cl} {X:Cx}
theorem relm {H:Hp} {F:Addr→Prop} {d:D} {v:V} (r:Rel K H F d v):RelM false K H F d v:=r
def rC (K:PySem.W.Frag) (op:Cop):R2:=fun x y H Q=>∃ F a b k,RelB K H F a x∧RelB K H F b y∧cmpD op a b = some k∧Q (.bl k) H
theorem ordInv {p:Int→Int→Bool} {a b:D} {k:Bool} (h:ordD p a b = some k):∃ i j,a = .int i∧b = .int j∧k = p i j:=by
 unfold ordD at h
 split at h
 · cases h;exact ⟨_,_,rfl,rfl,rfl⟩
 · cases h
theorem inInv {a b:D} {k:Bool} (h:inD a b = some k):(∃ ds,(b = .lst ds∨b = .tup ds)∧(dep a≤150∧depL ds < 99999)∧k = ds.any fun y=>eqD y a)∨∃ x y,a = .str x∧b = .str y∧k = occS y x:=by
 unfold inD at h
 split at h
 · split at h
   · cases h;exact .inl ⟨_,.inl rfl,‹_›,rfl⟩
   · cases h
 · split at h
   · cases h;exact .inl ⟨_,.inr rfl,‹_›,rfl⟩
   · cases h
 · split at h
   · cases h;exact .inr ⟨_,_,rfl,rfl,rfl⟩
   · cases h
 · cases h
theorem op_notin_str:OpR X (compareOp .NotIn) (fun x y H Q=>∃ i j,x = .str i∧y = .str j∧Q (.bl (!occS j i)) H):=by
 intro pins s σ H x y v u Q I rx ry h
 obtain ⟨i,j,rfl,rfl,q⟩:=h
 obtain ⟨t,rfl⟩:=rx
 obtain ⟨t',rfl⟩:=ry
 exact PySem.P.notIn_str ⟨.bl _,H,I,rfl,q⟩
theorem OpR.imp {f:Value→Value→Sem Value} {r r':R2} (h:OpR X f r) (w:∀ x y H Q,r' x y H Q→r x y H Q):OpR X f r':=fun pins s σ H x y v u Q I rx ry q=>h pins s σ H x y v u Q I rx ry (w _ _ _ _ q)
theorem opC (hu:X.A.units+200 < cLine) {op:Cop} {o:CmpOp} (ho:copIs op o = true):OpR X (compareOp o) (rC X.K op):=by
 cases op<;>cases o<;>first | (exact absurd ho Bool.false_ne_true) | skip
 · exact OpR.imp (op_ltD hu) fun x y H Q ⟨F,a,b,k,ra,rb,e,q⟩=>⟨F,a,b,k,ra,rb,e,q⟩
 · refine OpR.imp op_gt fun x y H Q ⟨F,a,b,k,ra,rb,e,q⟩=>?_
   obtain ⟨i,j,rfl,rfl,rfl⟩:=ordInv e
   exact ⟨i,j,ra.int,rb.int,q⟩
 · refine OpR.imp ((op_eqD hu).or op_eq) fun x y H Q ⟨F,a,b,k,ra,rb,e,q⟩=>?_
   change (if depOk a b = true then some (eqD a b) else if mixD a b = true then some false else none) = some k at e
   split at e
   · cases e;exact .inl ⟨F,a,b,ra,rb,‹_›,q⟩
   · split at e
     · rename_i hm
       cases e
       cases a<;>cases b<;>first | (cases hm;done) | skip
       · rw [ra.int,rb.str]
         exact .inr ⟨rfl,q⟩
       · rw [ra.str,rb.int]
         exact .inr ⟨rfl,q⟩
     · cases e
 · refine OpR.imp (op_neD hu) fun x y H Q ⟨F,a,b,k,ra,rb,e,q⟩=>?_
   change (if depOk a b = true then some (!eqD a b) else none) = some k at e
   split at e
   · cases e;exact ⟨F,a,b,ra,rb,‹_›,q⟩
   · cases e
 · intro pins s σ H x y v u Q I rx ry h
   obtain ⟨F,a,b,k,ra,rb,e,q⟩:=h
   rcases inInv e with ⟨ds,hb,hd,rfl⟩ | ⟨x',y',rfl,rfl,rfl⟩
   · refine op_inD hu pins s σ H x y v u Q I rx ry ⟨F,a,ds,ra,?_,hd,q⟩
     rcases hb with rfl | rfl
     · exact .inl rb
     · exact .inr rb
   · exact op_in_str pins s σ H x y v u Q I rx ry ⟨x',y',ra.str,rb.str,q⟩
 · intro pins s σ H x y v u Q I rx ry h
   obtain ⟨F,a,b,k,ra,rb,e,q⟩:=h
   change (inD a b).map (!·) = some k at e
   rw [Option.map_eq_some_iff] at e
   obtain ⟨k',e,rfl⟩:=e
   rcases inInv e with ⟨ds,hb,hd,rfl⟩ | ⟨x',y',rfl,rfl,rfl⟩
   · refine op_notInD hu pins s σ H x y v u Q I rx ry ⟨F,a,ds,ra,?_,hd,q⟩
     rcases hb with rfl | rfl
     · exact .inl rb
     · exact .inr rb
   · exact op_notin_str pins s σ H x y v u Q I rx ry ⟨x',y',ra.str,rb.str,q⟩
theorem cmp_ev {op:Cop} {a b:E} {δ:Loc} {d:D} {δ':Loc} (ev:evE cx (.cmp op a b) δ = some (d,δ')):∃ x δ1 y k,evE cx a δ = some (x,δ1)∧evE cx b δ1 = some (y,δ')∧cmpD op x y = some k∧d = .bl k:=by
 simp only [evE,Option.bind_eq_bind,Option.bind_eq_some_iff] at ev
 obtain ⟨⟨x,δ1⟩,ea,⟨y',δ2⟩,eb,k,hd,e⟩:=ev
 cases e
 exact ⟨x,δ1,y',k,ea,eb,hd,rfl⟩
theorem cmp_evT {op:Cop} {a b:E} {δ:Loc} {k:Bool} {δ':Loc} (ev:evT cx (.cmp op a b) δ = some (k,δ')):∃ x δ1 y,evE cx a δ = some (x,δ1)∧evE cx b δ1 = some (y,δ')∧cmpD op x y = some k:=by
 simp only [evT,Option.bind_eq_bind,Option.bind_eq_some_iff] at ev
 obtain ⟨⟨x,δ1⟩,ea,⟨y',δ2⟩,eb,k,hd,e⟩:=ev
 cases e
 exact ⟨x,δ1,y',ea,eb,hd⟩
theorem snd_cmp {a b:E} {y z:Expr} {op:Cop} {o:CmpOp} {pos:Pos} (hu:X.A.units+200 < cLine) (ho:copIs op o = true) (pc:(!isPk a || np b) = true) (ha:PE X y (tE X.K cx a)) (hb:PE X z (tE X.K cx b)) (hm:behindInMarks o z = false) :
 PE X (.Compare y [o] [z] pos) (tE X.K cx (.cmp op a b)):=by
 refine PE.imp (pe_cmpR (opC hu ho) ha hb hm) fun σ H Q h=>?_
 obtain ⟨G,F,δ,d,δ',ok,ev,post⟩:=h
 obtain ⟨x,δ1,y',k,ea,eb,hd,rfl⟩:=cmp_ev ev
 exact two ok ea eb pc fun v u H2 F2 st sm ok2 r1 r2=>⟨F2,x,y',k,r1.b,r2.b,hd,post _ H2 F2 st sm ok2 (relm (rel_bl k))⟩
theorem sndT_cmp {a b:E} {y z:Expr} {op:Cop} {o:CmpOp} {pos:Pos} (hu:X.A.units+200 < cLine) (ho:copIs op o = true) (pc:(!isPk a || np b) = true) (ha:PE X y (tE X.K cx a)) (hb:PE X z (tE X.K cx b)) (hm:behindInMarks o z = false) :
 PT X (.Compare y [o] [z] pos) (tT X.K cx (.cmp op a b)):=by
 refine PT.imp (pt_cmpR (opC hu ho) ha hb hm) fun σ H Q h=>?_
 obtain ⟨G,F,δ,k,δ',ok,ev,post⟩:=h
 obtain ⟨x,δ1,y',ea,eb,hd⟩:=cmp_evT ev
 exact two ok ea eb pc fun v u H2 F2 st sm ok2 r1 r2=>⟨F2,x,y',k,r1.b,r2.b,hd,k,rfl,post H2 F2 st sm ok2⟩
theorem rel_of {e:E} {H:Hp} {F:Addr→Prop} {d:D} {v:V} (n:(!isPk e) = true) (h:RelM (isPk e) K H F d v):Rel K H F d v:=by
 have e1:isPk e = false:=by simpa using n
 rw [e1] at h
 exact h
theorem snd_and {a b:E} {y z:Expr} {r:List Expr} {pos:Pos} (na:(!isPk a) = true) (nb:(!isPk b) = true) (ha:PE X y (tE X.K cx a)) (hb:PE X (.BoolOp .And (z::r) pos) (tE X.K cx b)):PE X (.BoolOp .And (y::z::r) pos) (tE X.K cx (.and a b)):=by
 refine PE.imp (pe_and ha hb) fun σ H Q h=>?_
 obtain ⟨G,F,δ,d,δ',ok,ev,post⟩:=h
 simp only [evE,Option.bind_eq_bind,Option.bind_eq_some_iff] at ev
 obtain ⟨⟨x,δ1⟩,ea,ev⟩:=ev
 refine ⟨G,F,δ,x,δ1,ok,ea,fun v H1 F1 st1 sm1 ok1 r1=>?_⟩
 replace r1:=rel_of na r1
 have np1:np (.and a b) = (np a && np b):=rfl
 cases x with
 | bl k =>
   unfold Rel at r1
   refine ⟨k,r1,?_⟩
   cases k with
   | true =>
     rw [if_pos rfl]
     refine ⟨G,F1,δ1,d,δ',ok1,ev,fun u H2 F2 st2 sm2 ok2 r2=>post u H2 F2 (st1.trans st2) (fun n=>?_) ok2 (relm (rel_of nb r2))⟩
     rw [np1,Bool.and_eq_true] at n
     exact (sm1 n.1).trans (sm2 n.2)
   | false =>
     rw [if_neg Bool.false_ne_true]
     cases ev
     exact post _ H1 F1 st1 (fun n=>by rw [np1,Bool.and_eq_true] at n;exact sm1 n.1) ok1 (relm (rel_bl false))
 | _=>cases ev
theorem snd_or {a b:E} {y z:Expr} {r:List Expr} {pos:Pos} (na:(!isPk a) = true) (nb:(!isPk b) = true) (ha:PE X y (tE X.K cx a)) (hb:PE X (.BoolOp .Or (z::r) pos) (tE X.K cx b)):PE X (.BoolOp .Or (y::z::r) pos) (tE X.K cx (.or a b)):=by
 refine PE.imp (pe_or ha hb) fun σ H Q h=>?_
 obtain ⟨G,F,δ,d,δ',ok,ev,post⟩:=h
 simp only [evE,Option.bind_eq_bind,Option.bind_eq_some_iff] at ev
 obtain ⟨⟨x,δ1⟩,ea,ev⟩:=ev
 refine ⟨G,F,δ,x,δ1,ok,ea,fun v H1 F1 st1 sm1 ok1 r1=>?_⟩
 replace r1:=rel_of na r1
 have np1:np (.or a b) = (np a && np b):=rfl
 cases x with
 | bl k =>
   unfold Rel at r1
   refine ⟨k,r1,?_⟩
   cases k with
   | false =>
     rw [if_neg Bool.false_ne_true]
     refine ⟨G,F1,δ1,d,δ',ok1,ev,fun u H2 F2 st2 sm2 ok2 r2=>post u H2 F2 (st1.trans st2) (fun n=>?_) ok2 (relm (rel_of nb r2))⟩
     rw [np1,Bool.and_eq_true] at n
     exact (sm1 n.1).trans (sm2 n.2)
   | true =>
     rw [if_pos rfl]
     cases ev
     exact post _ H1 F1 st1 (fun n=>by rw [np1,Bool.and_eq_true] at n;exact sm1 n.1) ok1 (relm (rel_bl true))
 | _=>cases ev
theorem snd_not {a:E} {y:Expr} {pos:Pos} (na:(!isPk a) = true) (ha:PE X y (tE X.K cx a)):PE X (.UnaryOp .Not y pos) (tE X.K cx (.not a)):=by
 refine PE.imp (pe_not ha) fun σ H Q h=>?_
 obtain ⟨G,F,δ,d,δ',ok,ev,post⟩:=h
 simp only [evE,Option.bind_eq_bind,Option.bind_eq_some_iff] at ev
 obtain ⟨⟨x,δ1⟩,ea,ev⟩:=ev
 refine ⟨G,F,δ,x,δ1,ok,ea,fun v H1 F1 st1 sm1 ok1 r1=>?_⟩
 replace r1:=rel_of na r1
 cases x with
 | bl k =>
   unfold Rel at r1
   cases ev
   exact ⟨k,r1,post _ H1 F1 st1 sm1 ok1 (relm (rel_bl _))⟩
 | _=>cases ev
theorem PT.pw {op:BoolOp} {vs:List Expr} {pos:Pos} {t:TT} (h:PT X (.BoolOp op vs pos) t):PW X (.BoolOp op vs pos) t:=fun _ pins s σ H Q I q=>h pins s σ H Q I q
theorem sndT_and {a b:E} {y z:Expr} {r:List Expr} {pos:Pos} (ha:PT X y (tT X.K cx a)) (hb:PW X (.BoolOp .And (z::r) pos) (tT X.K cx b)):PT X (.BoolOp .And (y::z::r) pos) (tT X.K cx (.and a b)):=by
 refine PT.imp (pw_and ha hb).pt fun σ H Q h=>?_
 obtain ⟨G,F,δ,d,δ',ok,ev,post⟩:=h
 simp only [evT,Option.bind_eq_bind,Option.bind_eq_some_iff] at ev
 obtain ⟨⟨k,δ1⟩,ea,ev⟩:=ev
 have np1:np (.and a b) = (np a && np b):=rfl
 refine ⟨G,F,δ,k,δ1,ok,ea,fun H1 F1 st1 sm1 ok1=>?_⟩
 cases k with
 | true =>
   rw [if_pos rfl]
   refine ⟨G,F1,δ1,d,δ',ok1,ev,fun H2 F2 st2 sm2 ok2=>post H2 F2 (st1.trans st2) (fun n=>?_) ok2⟩
   rw [np1,Bool.and_eq_true] at n
   exact (sm1 n.1).trans (sm2 n.2)
 | false =>
   rw [if_neg Bool.false_ne_true]
   cases ev
   exact post H1 F1 st1 (fun n=>by rw [np1,Bool.and_eq_true] at n;exact sm1 n.1) ok1
theorem sndT_or {a b:E} {y z:Expr} {r:List Expr} {pos:Pos} (ha:PT X y (tT X.K cx a)) (hb:PW X (.BoolOp .Or (z::r) pos) (tT X.K cx b)):PT X (.BoolOp .Or (y::z::r) pos) (tT X.K cx (.or a b)):=by
 refine PT.imp (pw_or ha hb).pt fun σ H Q h=>?_
 obtain ⟨G,F,δ,d,δ',ok,ev,post⟩:=h
 simp only [evT,Option.bind_eq_bind,Option.bind_eq_some_iff] at ev
 obtain ⟨⟨k,δ1⟩,ea,ev⟩:=ev
 have np1:np (.or a b) = (np a && np b):=rfl
 refine ⟨G,F,δ,k,δ1,ok,ea,fun H1 F1 st1 sm1 ok1=>?_⟩
 cases k with
 | false =>
   rw [if_neg Bool.false_ne_true]
   refine ⟨G,F1,δ1,d,δ',ok1,ev,fun H2 F2 st2 sm2 ok2=>post H2 F2 (st1.trans st2) (fun n=>?_) ok2⟩
   rw [np1,Bool.and_eq_true] at n
   exact (sm1 n.1).trans (sm2 n.2)
 | true =>
   rw [if_pos rfl]
   cases ev
   exact post H1 F1 st1 (fun n=>by rw [np1,Bool.and_eq_true] at n;exact sm1 n.1) ok1
theorem sndT_not {a:E} {y:Expr} {pos:Pos} (ha:PT X y (tT X.K cx a)):PT X (.UnaryOp .Not y pos) (tT X.K cx (.not a)):=by
 refine PT.imp (pt_not ha) fun σ H Q h=>?_
 obtain ⟨G,F,δ,d,δ',ok,ev,post⟩:=h
 simp only [evT,Option.bind_eq_bind,Option.bind_eq_some_iff] at ev
 obtain ⟨⟨k,δ1⟩,ea,ev⟩:=ev
 cases ev
 exact ⟨G,F,δ,k,δ1,ok,ea,fun H1 F1 st1 sm1 ok1=>post H1 F1 st1 sm1 ok1⟩
theorem snd_ite {c a b:E} {t y z:Expr} {pos:Pos} (na:(!isPk a) = true) (nb:(!isPk b) = true) (hc:PT X t (tT X.K cx c)) (ha:PE X y (tE X.K cx a)) (hb:PE X z (tE X.K cx b)):PE X (.IfExp t y z pos) (tE X.K cx (.ite c a b)):=by
 refine PE.imp (pe_ifExp hc ha hb) fun σ H Q h=>?_
 obtain ⟨G,F,δ,d,δ',ok,ev,post⟩:=h
 simp only [evE,Option.bind_eq_bind,Option.bind_eq_some_iff] at ev
 obtain ⟨⟨k,δ1⟩,ea,ev⟩:=ev
 have np1:np (.ite c a b) = (np c && np a && np b):=rfl
 refine ⟨G,F,δ,k,δ1,ok,ea,fun H1 F1 st1 sm1 ok1=>?_⟩
 cases k with
 | true =>
   rw [if_pos rfl]
   refine ⟨G,F1,δ1,d,δ',ok1,ev,fun u H2 F2 st2 sm2 ok2 r2=>post u H2 F2 (st1.trans st2) (fun n=>?_) ok2 (relm (rel_of na r2))⟩
   rw [np1,Bool.and_eq_true,Bool.and_eq_true] at n
   exact (sm1 n.1.1).trans (sm2 n.1.2)
 | false =>
   rw [if_neg Bool.false_ne_true]
   refine ⟨G,F1,δ1,d,δ',ok1,ev,fun u H2 F2 st2 sm2 ok2 r2=>post u H2 F2 (st1.trans st2) (fun n=>?_) ok2 (relm (rel_of nb r2))⟩
   rw [np1,Bool.and_eq_true,Bool.and_eq_true] at n
   exact (sm1 n.1.1).trans (sm2 n.2)
theorem Ok.look {σ:L2.St} {G:Gh} {H:Hp} {F:Addr→Prop} {δ:Loc} (ok:Ok K G F σ H δ) {i:Nat} {d:D} (e:get δ i = some d):∃ v,σ[i]? = some (some v)∧RelB K H F d v∧∃ F',Step G F H F' H∧Ok K G F' σ H (PP.demote δ i)∧Rel K H F' d v:=by
 unfold get at e
 cases q:δ[i]? with
 | none=>rw [q] at e;cases e
 | some s =>
   rw [q] at e
   cases s with
   | no=>cases e
   | fnc _ _=>cases e
   | odc _ _=>cases e
   | val d' =>
     cases e
     obtain ⟨v,e1,r⟩:=ok.sl i _ q
     refine ⟨v,e1,.inl r,F,Step.refl,?_,r⟩
     unfold PP.demote;rw [q];exact ok
   | own ds =>
     cases e
     obtain ⟨a,xs,e1,h1,h2,h3,h4⟩:=ok.sl i _ q
     obtain ⟨o1,o2⟩:=ok.demote (d:=.lst ds) q rfl e1
     refine ⟨.ref a,e1,.inr ⟨a,xs,ds,rfl,rfl,h3,h4⟩,fun b=>F b∧b≠a,⟨fun _ _ _ z _=>z,fun b z=>.inl z.1,fun b o r z e=>⟨⟨z,fun w=>h2.2 (by rw [← w];exact r)⟩,e⟩,fun _ ps e=>⟨ps,e⟩⟩,?_,o2⟩
     unfold PP.demote;rw [q];exact o1
theorem Ok.lookV {σ:L2.St} {G:Gh} {H:Hp} {F:Addr→Prop} {δ:Loc} (ok:Ok K G F σ H δ) {i:Nat} {d:D} (e:getV δ i = some d):∃ v,σ[i]? = some (some v)∧∃ F',Step G F H F' H∧Ok K G F' σ H (PP.demote δ i)∧Rel K H F' d v:=by
 unfold getV at e
 split at e
 · rename_i ks ds q
   cases e
   obtain ⟨a,xs,e1,h1,h2,_⟩:=ok.sl i _ q
   obtain ⟨o1,o2⟩:=ok.demote (d:=.dct ks ds) q rfl e1
   refine ⟨.ref a,e1,fun b=>F b∧b≠a,⟨fun _ _ _ z _=>z,fun b z=>.inl z.1,fun b o r z e=>⟨⟨z,fun w=>h2.2 (by rw [← w];exact r)⟩,e⟩,fun _ ps e=>⟨ps,e⟩⟩,?_,o2⟩
   unfold PP.demote;rw [q];exact o1
 · obtain ⟨v,e1,_,h⟩:=ok.look e
   exact ⟨v,e1,h⟩
theorem snd_var {i:Nat} {x:Str} {pos:Pos} (hN:X.N[i]? = some x) (hv:Vis X.env.scope x) (hd:(x == ("__debug__":Str)) = false) (hcd:(x == ("__classdict__":Str)) = false):PE X (.Name x pos) (tE X.K cx (.var i)):=by
 refine PE.imp (pe_var hN hv hd hcd) fun σ H Q h=>?_
 obtain ⟨G,F,δ,d,δ',ok,ev,post⟩:=h
 simp only [evE,Option.bind_eq_bind,Option.bind_eq_some_iff] at ev
 obtain ⟨d',e1,e⟩:=ev
 cases e
 obtain ⟨v,ev,F',st,ok',r⟩:=ok.lookV e1
 exact ⟨v,ev,post v H F' st (fun _=>Sim.refl H) ok' (relm r)⟩
theorem snd_pk {i:Nat} {x:Str} {pos:Pos} (hN:X.N[i]? = some x) (hv:Vis X.env.scope x) (hd:(x == ("__debug__":Str)) = false) (hcd:(x == ("__classdict__":Str)) = false):PE X (.Name x pos) (tE X.K cx (.pk i)):=by
 refine PE.imp (pe_var hN hv hd hcd) fun σ H Q h=>?_
 obtain ⟨G,F,δ,d,δ',ok,ev,post⟩:=h
 simp only [evE,Option.bind_eq_bind,Option.bind_eq_some_iff] at ev
 obtain ⟨d',e1,e⟩:=ev
 cases e
 obtain ⟨v,ev,rb,_⟩:=ok.look e1
 exact ⟨v,ev,post v H F Step.refl (fun _=>Sim.refl H) ok rb⟩
theorem tru_of {H:Hp} {F:Addr→Prop} {d:D} {v:V} {k:Bool} (r:RelB K H F d v) (e:tv d = some k):TruV K v H k:=by
 cases d with
 | non=>cases e;rcases r with r | ⟨_,_,_,z,_⟩;(unfold Rel at r;subst r;rfl);cases z
 | bl b=>cases e;have:=r.bl;subst this;rfl
 | int i=>cases e;have:=r.int;subst this;rfl
 | str x =>
   change (if x.length≤sizeLine then some ((x.length:Int) != 0) else none) = some k at e
   split at e
   · cases e;have:=r.str;subst this;exact ⟨‹_›,rfl⟩
   · cases e
 | lst ds =>
   cases e
   obtain ⟨a,xs,rfl,h1,h2⟩:=r.lst
   refine .inl ⟨xs,h1.sq,?_⟩
   have:=h2.length
   cases ds<;>cases xs<;>first | rfl | (simp at this)
 | tup ds =>
   cases e
   obtain ⟨a,xs,rfl,h1,h2⟩:=r.tup
   refine .inr (.inl ⟨xs,h1,?_⟩)
   have:=h2.length
   cases ds<;>cases xs<;>first | rfl | (simp at this)
 | fn _ _=>cases e
 | dct _ _=>cases e
theorem sndT_var {i:Nat} {x:Str} {pos:Pos} {e:E} (he:e = .var i∨e = .pk i) (hN:X.N[i]? = some x) (hv:Vis X.env.scope x) (hd:(x == ("__debug__":Str)) = false) (hcd:(x == ("__classdict__":Str)) = false):PT X (.Name x pos) (tT X.K cx e):=by
 refine PT.imp (pt_truth (pe_var hN hv hd hcd) fun _=>rfl) fun σ H Q h=>?_
 obtain ⟨G,F,δ,k,δ',ok,ev,post⟩:=h
 have ev':∃ d,get δ i = some d∧tv d = some k∧δ = δ':=by
  rcases he with rfl | rfl
  · simp only [evT,Option.bind_eq_bind,Option.bind_eq_some_iff] at ev
    obtain ⟨d,e1,k',e2,e⟩:=ev
    cases e
    exact ⟨d,e1,e2,rfl⟩
  · simp only [evT,Option.bind_eq_bind,Option.bind_eq_some_iff] at ev
    obtain ⟨d,e1,k',e2,e⟩:=ev
    cases e
    exact ⟨d,e1,e2,rfl⟩
 obtain ⟨d,e1,e2,rfl⟩:=ev'
 obtain ⟨v,ev,rb,_⟩:=ok.look e1
 exact ⟨v,ev,k,tru_of rb e2,post H F Step.refl (fun _=>Sim.refl H) ok⟩
theorem snd_int {i:Int} {j:Nat} {pos:Pos}:PE X (.Constant (.int i) j pos) (tE X.K cx (.int i)) :=
 PE.imp pe_int fun σ H Q ⟨G,F,δ,d,δ',ok,ev,post⟩=>by cases ev;exact post _ H F Step.refl (fun _=>Sim.refl H) ok (relm (rel_int i))
theorem snd_bl {i:Bool} {j:Nat} {pos:Pos}:PE X (.Constant (.bool i) j pos) (tE X.K cx (.bl i)) :=
 PE.imp pe_bl fun σ H Q ⟨G,F,δ,d,δ',ok,ev,post⟩=>by cases ev;exact post _ H F Step.refl (fun _=>Sim.refl H) ok (relm (rel_bl i))
theorem snd_str {i:Str} {j:Nat} {pos:Pos}:PE X (.Constant (.str i) j pos) (tE X.K cx (.str i)) :=
 PE.imp pe_str fun σ H Q ⟨G,F,δ,d,δ',ok,ev,post⟩=>by cases ev;exact post _ H F Step.refl (fun _=>Sim.refl H) ok (relm (rel_str i))
theorem snd_non {j:Nat} {pos:Pos}:PE X (.Constant .none j pos) (tE X.K cx .non) :=
 PE.imp pe_non fun σ H Q ⟨G,F,δ,d,δ',ok,ev,post⟩=>by cases ev;exact post _ H F Step.refl (fun _=>Sim.refl H) ok (relm rel_non)
theorem snd_glob {g:Nat} {x:Str} {u:Value} {v:V} {pos:Pos} (hg:Gl X x) (hm:X.mg x = some u) (r:RelV v u) (hr:∀ d,cx.gl[g]? = some d→∀ H F,Rel X.K H F d v) (hd:(x == ("__debug__":Str)) = false):PE X (.Name x pos) (tE X.K cx (.glob g)):=by
 refine PE.imp (pe_glob hg hm r hd) fun σ H Q h=>?_
 obtain ⟨G,F,δ,d,δ',ok,ev,post⟩:=h
 simp only [evE,Option.bind_eq_bind,Option.bind_eq_some_iff] at ev
 obtain ⟨d',e1,e⟩:=ev
 cases e
 exact post v H F Step.refl (fun _=>Sim.refl H) ok (relm (hr d e1 H F))
theorem snd_neg {a:E} {y:Expr} {pos:Pos} (n:(!isPk a) = true) (ha:PE X y (tE X.K cx a)):PE X (.UnaryOp .USub y pos) (tE X.K cx (.neg a)):=by
 refine PE.imp (pe_un un_neg ha) fun σ H Q h=>?_
 obtain ⟨G,F,δ,d,δ',ok,ev,post⟩:=h
 simp only [evE,Option.bind_eq_bind,Option.bind_eq_some_iff] at ev
 obtain ⟨⟨x,δ1⟩,ea,ev⟩:=ev
 cases x with
 | int i =>
   cases ev
   refine ⟨G,F,δ,_,_,ok,ea,fun v H1 F1 st sm ok1 r=>?_⟩
   have:=r.b.int
   subst this
   exact ⟨i,rfl,post _ H1 F1 st sm ok1 (relm (rel_int _))⟩
 | _=>cases ev
end
end PP
end
section
namespace PP
open PySem L2 PyProof.Rows
variable [Tbs]
section
variable {K:PySem.W.Frag} {cx:Cl} {X:Cx}
theorem snd_nil:PA X [] (tEs X.K cx .nil):=by
 refine fun pos pins s σ H Q I h=>pa_nil pos pins s σ H Q I ?_
 obtain ⟨G,F,δ,ds,δ',ok,ev,post⟩:=h
 simp only [evEs] at ev
 cases ev
 exact post [] H F Step.refl (fun _=>Sim.refl H) ok ⟨rfl,rfl⟩
theorem snd_cons {a:E} {es:Es} {y:Expr} {ys:List Expr} (pc:(!isPk a || npS es) = true) (ha:PE X y (tE X.K cx a)) (hr:PA X ys (tEs X.K cx es)) (hs:starEach (y::ys) X.env = (false,eval y X.env)::starEach ys X.env):PA X (y::ys) (tEs X.K cx (.cons a es)):=by
 refine fun pos pins s σ H Q I h=>pa_cons ha hr hs pos pins s σ H Q I ?_
 obtain ⟨G,F,δ,ds,δ',ok,ev,post⟩:=h
 simp only [evEs,Option.bind_eq_bind,Option.bind_eq_some_iff] at ev
 obtain ⟨⟨x,δ1⟩,ea,⟨ds',δ2⟩,eb,e⟩:=ev
 cases e
 refine ⟨G,F,δ,x,δ1,ok,ea,fun v H1 F1 st1 sm1 ok1 r1=>⟨G,F1,δ1,ds',δ2,ok1,eb,fun vs H2 F2 st2 sm2 ok2 r2=>?_⟩⟩
 refine post (v::vs) H2 F2 (st1.trans st2) (fun z=>?_) ok2 ⟨x,ds',v,vs,rfl,rfl,RelM.step ok1.fd st2 (fun z=>sm2 (by rw [z] at pc;simpa using pc)) r1,r2⟩
 have z':(np a && npS es) = true:=z
 rw [Bool.and_eq_true] at z'
 exact (sm1 z'.1).trans (sm2 z'.2)
theorem RelML.rl {H:Hp} {F:Addr→Prop}:∀ {es:Es} {ds:List D} {vs:List V},noPk es = true→RelML K H F es ds vs→RelL K H F ds vs
 | .nil,ds,vs,_,h=>by obtain ⟨rfl,rfl⟩:=h;exact RelL.nil
 | .cons e es,ds,vs,n,h=>by
   obtain ⟨d,ds',v,vs',rfl,rfl,h1,h2⟩:=h
   have n':(!isPk e && noPk es) = true:=n
   rw [Bool.and_eq_true] at n'
   exact RelL.cons (rel_of n'.1 h1) (RelML.rl n'.2 h2)
def RelBL (K:PySem.W.Frag) (H:Hp) (F:Addr→Prop):List D→List V→Prop
 | [],vs=>vs = []
 | d::ds,vs=>∃ v vs',vs = v::vs'∧RelB K H F d v∧RelBL K H F ds vs'
theorem RelML.bl {H:Hp} {F:Addr→Prop}:∀ {es:Es} {ds:List D} {vs:List V},RelML K H F es ds vs→RelBL K H F ds vs
 | .nil,ds,vs,h=>by obtain ⟨rfl,rfl⟩:=h;rfl
 | .cons e es,ds,vs,h=>by
   obtain ⟨d,ds',v,vs',rfl,rfl,h1,h2⟩:=h
   exact ⟨v,vs',rfl,h1.b,RelML.bl h2⟩
theorem es_ev {f:List D→Option D} {es:Es} {δ δ':Loc} {d:D} (ev:(do let (ds,δ1) ← evEs cx es δ;return (← f ds,δ1)) = some (d,δ')):∃ ds,evEs cx es δ = some (ds,δ')∧f ds = some d:=by
 simp only [Option.bind_eq_bind,Option.bind_eq_some_iff] at ev
 obtain ⟨⟨ds,δ1⟩,ea,d',hd,e⟩:=ev
 cases e
 exact ⟨ds,ea,hd⟩
theorem snd_tup {es:Es} {xs:List Expr} {k:Nat} {pos:Pos} (n:noPk es = true) (h:PA X xs (tEs X.K cx es)):PE X (.Tuple xs k pos) (tE X.K cx (.tup es)):=by
 refine PE.imp (pe_tup h) fun σ H Q h=>?_
 obtain ⟨G,F,δ,d,δ',ok,ev,post⟩:=h
 simp only [evE,Option.bind_eq_bind,Option.bind_eq_some_iff] at ev
 obtain ⟨⟨ds,δ1⟩,ea,ev⟩:=ev
 split at ev
 · rename_i hz
   cases ev
   refine ⟨G,F,δ,ds,δ1,ok,ea,fun vs H1 F1 st1 sm1 ok1 r1=>?_⟩
   have r:=r1.rl n
   refine ⟨by rw [r.length];exact hz,fun p hp=>?_⟩
   obtain ⟨o1,o2,o3,o4⟩:=ok1.laid hp (.tup vs)
   exact post _ _ _ (st1.trans o2) (fun z=>(sm1 z).trans o3) o1 (relm (rel_newTup ok1 hp r))
 · cases ev
theorem snd_lst {es:Es} {xs:List Expr} {pos:Pos} (n:noPk es = true) (h:PA X xs (tEs X.K cx es)):PE X (.List xs pos) (tE X.K cx (.lst es)):=by
 refine PE.imp (pe_lst h) fun σ H Q h=>?_
 obtain ⟨G,F,δ,d,δ',ok,ev,post⟩:=h
 simp only [evE,Option.bind_eq_bind,Option.bind_eq_some_iff] at ev
 obtain ⟨⟨ds,δ1⟩,ea,ev⟩:=ev
 split at ev
 · rename_i hz
   cases ev
   refine ⟨G,F,δ,ds,δ1,ok,ea,fun vs H1 F1 st1 sm1 ok1 r1=>?_⟩
   have r:=r1.rl n
   refine ⟨by rw [r.length];exact hz,fun p hp=>?_⟩
   obtain ⟨o1,o2,o3,o4⟩:=ok1.laid hp (.lst vs)
   exact post _ _ _ (st1.trans o2) (fun z=>(sm1 z).trans o3) o1 (relm (rel_newLst ok1 hp r))
 · cases ev
theorem RelL.at {H:Hp} {F:Addr→Prop} {ds:List D} {xs:List V} {i:Int} {d:D} (h:RelL K H F ds xs) (e:atI ds i = some d):∃ v,atI xs i = some v∧Rel K H F d v:=by
 unfold atI at e ⊢
 rw [h.length]
 cases q:ixN ds.length i with
 | none=>rw [q] at e;cases e
 | some j =>
   rw [q] at e
   exact h.get e
theorem snd_ix {a b:E} {y z:Expr} {pos:Pos} (pc:(!isPk a || np b) = true) (ha:PE X y (tE X.K cx a)) (hb:PE X z (tE X.K cx b)) (hp:PlainIx z):PE X (.Subscript y z pos) (tE X.K cx (.ix a b)):=by
 refine PE.imp (pe_ix ix_seq ha hb hp) fun σ H Q h=>?_
 obtain ⟨G,F,δ,d,δ',ok,ev,post⟩:=h
 simp only [evE,Option.bind_eq_bind,Option.bind_eq_some_iff] at ev
 obtain ⟨⟨x,δ1⟩,ea,⟨y',δ2⟩,eb,d',hd,e⟩:=ev
 cases e
 dsimp only at eb hd post
 refine two ok ea eb pc fun v u H2 F2 st sm ok2 r1 r2=>?_
 unfold ixD at hd
 split at hd
 · have e2:=r2.b.int
   obtain ⟨p,xs,e1,h1,h2⟩:=r1.b.lst
   obtain ⟨w,hw,rw'⟩:=h2.at hd
   exact .inl ⟨p,xs,_,w,e1,e2,h1.sq,hw,post _ _ _ st sm ok2 (relm rw')⟩
 · have e2:=r2.b.int
   obtain ⟨p,xs,e1,h1,h2⟩:=r1.b.tup
   obtain ⟨w,hw,rw'⟩:=h2.at hd
   exact .inr (.inl ⟨p,xs,_,w,e1,e2,h1,hw,post _ _ _ st sm ok2 (relm rw')⟩)
 · have e2:=r2.b.int
   have e1:=r1.b.str
   split at hd
   · rename_i hz
     rw [Option.map_eq_some_iff] at hd
     obtain ⟨c,hc,rfl⟩:=hd
     exact .inr (.inr ⟨_,_,c,e1,e2,hz,hc,post _ _ _ st sm ok2 (relm (rel_str _))⟩)
   · cases hd
 · cases hd
theorem snd_o {o:Eo} {l:Option Expr} (h:∀ e,o = .yes e→∃ y,l = some y∧(!isPk e) = true∧PE X y (tE X.K cx e)) (hn:o = .no→l = none):PO X l (tO X.K cx o):=by
 cases o with
 | no =>
   rw [hn rfl]
   intro pins s σ H Q I q
   refine po_none pins s σ H Q I ?_
   obtain ⟨G,F,δ,d,δ',ok,ev,post⟩:=q
   simp only [evO] at ev
   cases ev
   exact post H F Step.refl (fun _=>Sim.refl H) ok
 | yes e =>
   obtain ⟨y,rfl,n,hy⟩:=h e rfl
   intro pins s σ H Q I q
   refine po_some hy pins s σ H Q I ?_
   obtain ⟨G,F,δ,d,δ',ok,ev,post⟩:=q
   simp only [evO,Option.bind_eq_bind,Option.bind_eq_some_iff] at ev
   obtain ⟨⟨x,δ1⟩,ea,ev⟩:=ev
   cases x with
   | int i =>
     cases ev
     exact ⟨G,F,δ,.int i,δ',ok,ea,fun v H1 F1 st1 sm1 ok1 r1=>⟨i,by have:=rel_of n r1;unfold Rel at this;exact this,post H1 F1 st1 sm1 ok1⟩⟩
   | _=>cases ev
theorem snd_sl {a:E} {lo hi:Eo} {y:Expr} {l h:Option Expr} {pos p2:Pos} (pc:(!isPk a || (npO lo && npO hi)) = true) (ha:PE X y (tE X.K cx a)) (hl:PO X l (tO X.K cx lo)) (hh:PO X h (tO X.K cx hi)):PE X (.Subscript y (.Slice l h none p2) pos) (tE X.K cx (.sl a lo hi)):=by
 refine PE.imp (pe_slice (sl_list.or sl_tup) ha hl hh) fun σ H Q h=>?_
 obtain ⟨G,F,δ,d,δ',ok,ev,post⟩:=h
 simp only [evE,Option.bind_eq_bind,Option.bind_eq_some_iff] at ev
 obtain ⟨⟨x,δ1⟩,ea,⟨l',δ2⟩,eb,⟨h',δ3⟩,ec,d',hd,e⟩:=ev
 cases e
 dsimp only at eb ec hd post
 refine ⟨G,F,δ,x,δ1,ok,ea,fun v H1 F1 st1 sm1 ok1 r1=>⟨G,F1,δ1,l',δ2,ok1,eb,fun H2 F2 st2 sm2 ok2=>⟨G,F2,δ2,h',δ3,ok2,ec,fun H3 F3 st3 sm3 ok3=>?_⟩⟩⟩
 have st:=st2.trans st3
 have rb:RelB X.K H3 F3 x v:=by
  refine (RelM.step ok1.fd st (fun z=>?_) r1).b
  rw [z] at pc
  have pc':(npO lo && npO hi) = true:=by simpa using pc
  rw [Bool.and_eq_true] at pc'
  exact (sm2 pc'.1).trans (sm3 pc'.2)
 have fin:∀ w H4,Same H3 H4→Ok X.K G F3 σ H4 δ3→Rel X.K H4 F3 d w→Q w H4:=fun w H4 s4 o4 r4=>post w H4 F3 ((st1.trans st).trans (Step.of_same s4)) (fun z=>by
  have z':(np a && npO lo && npO hi) = true:=z
  rw [Bool.and_eq_true,Bool.and_eq_true] at z'
  exact (((sm1 z'.1.1).trans (sm2 z'.1.2)).trans (sm3 z'.2)).trans (.of s4)) o4 (relm r4)
 unfold slD at hd
 split at hd
 · cases hd
   obtain ⟨p,xs,e1,h1,h2⟩:=rb.lst
   refine .inl ⟨p,xs,e1,h1.sq,fun q hq=>?_⟩
   obtain ⟨o1,o2,o3,o4⟩:=ok3.laid hq (.lst (cutV xs l' h'))
   exact fin _ _ (same_new hq _) o1 (rel_newLst ok3 hq (h2.cut l' h'))
 · split at hd
   · cases hd
   · rename_i hw
     cases hd
     obtain ⟨p,xs,e1,h1,h2⟩:=rb.tup
     refine .inr ⟨p,xs,e1,h1,by rw [h2.length];exact hw,fun q hq=>?_⟩
     obtain ⟨o1,o2,o3,o4⟩:=ok3.laid hq (.tup (cutV xs l' h'))
     exact fin _ _ (same_new hq _) o1 (rel_newTup ok3 hq (h2.cut l' h'))
 · cases hd
def spF (K:PySem.W.Frag) (f:List D→Option D):Sp:=fun vs H Q _=>∃ F ds d,FD F H∧TF F∧Tabs H∧RelL K H F ds vs∧f ds = some d∧∀ v H',Sim H H'→Tabs H'→Rel K H' F d v→Q v H'
theorem snd_call {f:Nat} {es:Es} {x:Str} {y:Expr} {ys:List Expr} {k:Nat} {a:Addr} {fd:FuncData} {ps:List Str} {p pos:Pos} (n:noPk es = true) (fn:FnOk X.prog X.w X.K X.mg X.base CX0 k a fd ps (spF X.K (cx.call f))) (hr:Room k X.A) (hg:Gl X x)
 (hm:X.mg x = some (.ref a)) (hk:PySem.W.keepIn X.K (.ref a) = true) (hb:Binds X.K fd ps []) (hA:PA X (y::ys) (tEs X.K cx es)) (hd:(x == ("__debug__":Str)) = false) (he:starEach (y::ys) X.env = (false,eval y X.env)::starEach ys X.env) (hpl:(backTo pos (starEach ys X.env)).any (·.1) = false) :
 PE X (.Call (.Name x p) (y::ys) [] pos) (tE X.K cx (.call f es)):=by
 refine PE.imp (pe_call fn hr hg hm hk hb .nil (pass0) hA hd he hpl) fun σ H Q h=>?_
 obtain ⟨G,F,δ,d,δ',ok,ev,post⟩:=h
 simp only [evE] at ev
 obtain ⟨ds,ea,hd⟩:=es_ev ev
 refine ⟨G,F,δ,ds,δ',ok,ea,fun vs H1 F1 st1 sm1 ok1 r1=>?_⟩
 show spF X.K (cx.call f) (vs++[]) H1 Q E0
 rw [List.append_nil]
 exact ⟨F1,ds,d,ok1.fd,ok1.tf,ok1.tabs,r1.rl n,hd,fun v H2 s2 t2 r2=>post v H2 F1 (st1.trans (ok1.call s2 t2).2) (fun z=>(sm1 z).trans s2) (ok1.call s2 t2).1 (relm r2)⟩
theorem sndT_of {e:E} {x:Expr} {es:Es} {f:List D→Option D} (hE:PE X x (tE X.K cx e)) (he:∀ whole,isTrue x X.env whole = (do let v ← whole;standAt x.pos;holding [v] (truthy v))) (n:isPk e = false)
 (e1:∀ δ,evE cx e δ = (do let (ds,δ1) ← evEs cx es δ;return (← f ds,δ1))) (e2:∀ δ,evT cx e δ = (do let (ds,δ1) ← evEs cx es δ;let d ← f ds;return (← tv d,δ1))):PT X x (tT X.K cx e):=by
 refine PT.imp (pt_truth hE he) fun σ H Q h=>?_
 obtain ⟨G,F,δ,k,δ',ok,ev,post⟩:=h
 rw [e2] at ev
 simp only [Option.bind_eq_bind,Option.bind_eq_some_iff] at ev
 obtain ⟨⟨ds,δ1⟩,ea,d,hd,k',hk,e⟩:=ev
 cases e
 refine ⟨G,F,δ,d,δ1,ok,?_,fun v H1 F1 st1 sm1 ok1 r1=>⟨k,tru_of r1.b hk,post H1 F1 st1 sm1 ok1⟩⟩
 rw [e1]
 simp only [Option.bind_eq_bind,Option.bind_eq_some_iff]
 exact ⟨(ds,δ1),ea,d,hd,rfl⟩
def rB (K:PySem.W.Frag) (f:List D→Option D):List V→Hp→VK→Prop:=fun xs H Q=>∃ F ds d,FD F H∧RelBL K H F ds xs∧f ds = some d∧∀ v H',Same H H'→Rel K H' F d v→Q v H'
theorem CallR.imp {f:Value} {r r':List V→Hp→VK→Prop} (h:CallR X f r) (w:∀ xs H Q,r' xs H Q→r xs H Q):CallR X f r':=fun pins s σ H xs us Q I rv q=>h pins s σ H xs us Q I rv (w _ _ _ q)
theorem b1 {H:Hp} {F:Addr→Prop} {d:D} {xs:List V} (h:RelBL K H F [d] xs):∃ v,xs = [v]∧RelB K H F d v:=by
 obtain ⟨v,vs,rfl,h1,h2⟩:=h
 cases h2
 exact ⟨v,rfl,h1⟩
theorem b2 {H:Hp} {F:Addr→Prop} {d e:D} {xs:List V} (h:RelBL K H F [d,e] xs):∃ v u,xs = [v,u]∧RelB K H F d v∧RelB K H F e u:=by
 obtain ⟨v,vs,rfl,h1,u,us,rfl,h2,h3⟩:=h
 cases h3
 exact ⟨v,u,rfl,h1,h2⟩
theorem not_F {F:Addr→Prop} {H:Hp} {p:Addr} (fd:FD F H) (hp:H p = none):¬ F p:=fd.none hp
theorem cb_len:CallR X (.builtin "len") (rB X.K lenD):=by
 refine CallR.imp (call_len_seq.or call_len_str) fun xs H Q ⟨F,ds,d,fd,r,e,q⟩=>?_
 unfold lenD at e
 split at e
 · split at e
   · cases e
     obtain ⟨v,rfl,rv⟩:=b1 r
     exact .inr ⟨_,by rw [rv.str],‹_›,q _ _ (Same.refl H) (rel_int _)⟩
   · cases e
 · cases e
   obtain ⟨v,rfl,rv⟩:=b1 r
   obtain ⟨a,ys,rfl,h1,h2⟩:=rv.lst
   exact .inl ⟨a,ys,rfl,.inl h1.sq,by rw [h2.length];exact q _ _ (Same.refl H) (rel_int _)⟩
 · cases e
   obtain ⟨v,rfl,rv⟩:=b1 r
   obtain ⟨a,ys,rfl,h1,h2⟩:=rv.tup
   exact .inl ⟨a,ys,rfl,.inr h1,by rw [h2.length];exact q _ _ (Same.refl H) (rel_int _)⟩
 · cases e
theorem cb_min (hc:X.calm = true):CallR X (.builtin "min") (rB X.K minD):=by
 refine CallR.imp (call_min2 hc) fun xs H Q ⟨F,ds,d,fd,r,e,q⟩=>?_
 unfold minD at e
 split at e
 · cases e
   obtain ⟨v,u,rfl,r1,r2⟩:=b2 r
   exact ⟨_,_,by rw [r1.int,r2.int],q _ _ (Same.refl H) (rel_int _)⟩
 · cases e
theorem call_intS:CallR X (.type "int") (fun xs H Q=>∃ x n,xs = [.str x]∧PySem.intText? x = some n∧x.length≤640∧Q (.int n) H):=by
 intro pins s σ H xs us Q I rv h
 obtain ⟨x,n,rfl,h1,h2,q⟩:=h
 obtain ⟨u,rfl,ru⟩:=rv.one
 obtain ⟨t,rfl⟩:=ru
 exact PySem.W.KIN.call_text h1 h2 ⟨.int n,H,I.tok _,⟨_,rfl⟩,q⟩
theorem cb_int:CallR X (.type "int") (rB X.K toIntD):=by
 refine CallR.imp (call_int1.or call_intS) fun xs H Q ⟨F,ds,d,fd,r,e,q⟩=>?_
 unfold toIntD at e
 split at e
 · cases e
   obtain ⟨v,rfl,r1⟩:=b1 r
   exact .inl (.inl ⟨_,by rw [r1.int],q _ _ (Same.refl H) (rel_int _)⟩)
 · cases e
   obtain ⟨v,rfl,r1⟩:=b1 r
   exact .inl (.inr ⟨_,by rw [r1.bl],q _ _ (Same.refl H) (rel_int _)⟩)
 · split at e
   · rw [Option.map_eq_some_iff] at e
     obtain ⟨n,e1,rfl⟩:=e
     obtain ⟨v,rfl,r1⟩:=b1 r
     exact .inr ⟨_,n,by rw [r1.str],e1,‹_›,q _ _ (Same.refl H) (rel_int _)⟩
   · cases e
 · cases e
theorem cb_str:CallR X (.type "str") (rB X.K toStrD):=by
 refine CallR.imp call_str_int fun xs H Q ⟨F,ds,d,fd,r,e,q⟩=>?_
 unfold toStrD at e
 split at e
 · split at e
   · cases e
     obtain ⟨v,rfl,r1⟩:=b1 r
     exact ⟨_,by rw [r1.int],‹_›,q _ _ (Same.refl H) (rel_str _)⟩
   · cases e
 · cases e
theorem step0 {F:Addr→Prop} {H H':Hp} (h:Same H H'):Step g0 F H F H':=Step.of_same h
theorem cb_tup:CallR X (.type "tuple") (rB X.K toTupD):=by
 refine CallR.imp call_tuple_of fun xs H Q ⟨F,ds,d,fd,r,e,q⟩=>?_
 unfold toTupD at e
 split at e
 · cases e
   obtain ⟨v,rfl,r1⟩:=b1 r
   obtain ⟨a,ys,rfl,h1,h2⟩:=r1.lst
   refine ⟨a,ys,rfl,.inl ⟨h1.sq,fun l hl=>q _ _ (same_new hl _) ?_⟩⟩
   unfold Rel
   exact ⟨l,ys,rfl,SqT.of upd_same,RelL.step fd (step0 (same_new hl _)) _ _ h2⟩
 · cases e
   obtain ⟨v,rfl,r1⟩:=b1 r
   obtain ⟨a,ys,rfl,h1,h2⟩:=r1.tup
   refine ⟨a,ys,rfl,.inr ⟨h1,q _ _ (Same.refl H) ?_⟩⟩
   unfold Rel
   exact ⟨a,ys,rfl,h1,h2⟩
 · cases e
theorem cb_lst:CallR X (.type "list") (rB X.K toLstD):=by
 refine CallR.imp call_list_of fun xs H Q ⟨F,ds,d,fd,r,e,q⟩=>?_
 unfold toLstD at e
 split at e
 · cases e
   obtain ⟨v,rfl,r1⟩:=b1 r
   obtain ⟨a,ys,rfl,h1,h2⟩:=r1.lst
   refine ⟨a,ys,rfl,.inl h1.sq,fun l hl=>q _ _ (same_new hl _) ?_⟩
   unfold Rel
   exact ⟨l,ys,rfl,.inl ⟨.inl upd_same,not_F fd hl⟩,RelL.step fd (step0 (same_new hl _)) _ _ h2⟩
 · cases e
   obtain ⟨v,rfl,r1⟩:=b1 r
   obtain ⟨a,ys,rfl,h1,h2⟩:=r1.tup
   refine ⟨a,ys,rfl,.inr h1,fun l hl=>q _ _ (same_new hl _) ?_⟩
   unfold Rel
   exact ⟨l,ys,rfl,.inl ⟨.inl upd_same,not_F fd hl⟩,RelL.step fd (step0 (same_new hl _)) _ _ h2⟩
 · cases e
theorem intsD_rel {H:Hp} {F:Addr→Prop}:∀ {ds:List D} {ns:List Int} {xs:List V},intsD ds = some ns→RelL K H F ds xs→xs = ns.map V.int
 | [],ns,xs,e,r=>by cases e;unfold RelL at r;exact r
 | d::ds,ns,xs,e,r=>by
   unfold RelL at r
   obtain ⟨y,ys,rfl,h1,h2⟩:=r
   cases d with
   | int i =>
     unfold intsD at e
     rw [Option.map_eq_some_iff] at e
     obtain ⟨ms,e,rfl⟩:=e
     unfold Rel at h1
     rw [h1,intsD_rel e h2,List.map_cons]
   | _=>cases e
theorem cb_max (hc:X.calm = true):CallR X (.builtin "max") (rB X.K maxD):=by
 intro pins s σ H xs us Q I rv ⟨F,ds,d,fd,r,e,q⟩
 unfold maxD at e
 split at e
 · cases e
   obtain ⟨v,u,rfl,r1,r2⟩:=b2 r
   exact call_max2 hc pins s σ H _ us Q I rv ⟨_,_,by rw [r1.int,r2.int],q _ _ (Same.refl H) (rel_int _)⟩
 · rw [Option.bind_eq_some_iff] at e
   obtain ⟨ns,e,e'⟩:=e
   split at e'
   · cases e'
   · rename_i hne
     cases e'
     obtain ⟨v,rfl,r1⟩:=b1 r
     obtain ⟨a,ys,rfl,h1,h2⟩:=r1.lst
     rw [intsD_rel e h2] at h1
     exact call_maxL hc pins s σ H _ us Q I rv ⟨a,ns,rfl,hne,h1.sq,q _ _ (Same.refl H) (rel_int _)⟩
 · cases e
theorem boolsD_rel {H:Hp} {F:Addr→Prop}:∀ {ds:List D} {ns:List Bool} {xs:List V},boolsD ds = some ns→RelL K H F ds xs→xs = ns.map V.bl
 | [],ns,xs,e,r=>by cases e;unfold RelL at r;exact r
 | d::ds,ns,xs,e,r=>by
   unfold RelL at r
   obtain ⟨y,ys,rfl,h1,h2⟩:=r
   cases d with
   | bl i =>
     unfold boolsD at e
     rw [Option.map_eq_some_iff] at e
     obtain ⟨ms,e,rfl⟩:=e
     unfold Rel at h1
     rw [h1,boolsD_rel e h2,List.map_cons]
   | _=>cases e
theorem cb_any (hc:X.calm = true):CallR X (.builtin "any") (rB X.K anyD):=by
 refine CallR.imp (call_anyL hc) fun xs H Q ⟨F,ds,d,fd,r,e,q⟩=>?_
 unfold anyD at e
 split at e
 · rw [Option.map_eq_some_iff] at e
   obtain ⟨ns,e,rfl⟩:=e
   obtain ⟨v,rfl,r1⟩:=b1 r
   obtain ⟨a,ys,rfl,h1,h2⟩:=r1.lst
   rw [boolsD_rel e h2] at h1
   exact ⟨a,ns,rfl,h1.sq,q _ _ (Same.refl H) (rel_bl _)⟩
 · cases e
theorem cb_sum (hc:X.calm = true):CallR X (.builtin "sum") (rB X.K sumD):=by
 refine CallR.imp (call_sumL hc) fun xs H Q ⟨F,ds,d,fd,r,e,q⟩=>?_
 unfold sumD at e
 split at e
 · rw [Option.map_eq_some_iff] at e
   obtain ⟨ns,e,rfl⟩:=e
   obtain ⟨v,rfl,r1⟩:=b1 r
   obtain ⟨a,ys,rfl,h1,h2⟩:=r1.lst
   rw [intsD_rel e h2] at h1
   exact ⟨a,ns,rfl,h1.sq,q _ _ (Same.refl H) (rel_int _)⟩
 · cases e
theorem cb_sorted (hu:X.A.units+200 < cLine):CallR X (.builtin "sorted") (rB X.K sortedD):=by
 refine CallR.imp (call_sortedD hu) fun xs H Q ⟨F,ds,d,fd,r,e,q⟩=>?_
 unfold sortedD at e
 split at e
 · split at e
   · rename_i zs hs
     cases e
     obtain ⟨v,rfl,r1⟩:=b1 r
     refine ⟨F,zs,v,rfl,r1,hs,fun p ys hp ry=>q _ _ (same_new hp _) ?_⟩
     unfold Rel
     exact ⟨p,ys,rfl,.inl ⟨.inl upd_same,not_F fd hp⟩,RelL.step fd (step0 (same_new hp _)) _ _ ry⟩
   · cases e
 · cases e
theorem snd_blt {f:Blt} {es:Es} {x:Str} {p pos:Pos} {xs:List Expr} (g:List D→Option D) (hg:bltD f = g) (h:PE X (.Call (.Name x p) xs [] pos) (tCB (rB X.K g) (tEs X.K cx es))):PE X (.Call (.Name x p) xs [] pos) (tE X.K cx (.blt f es)):=by
 subst hg
 refine PE.imp h fun σ H Q h=>?_
 obtain ⟨G,F,δ,d,δ',ok,ev,post⟩:=h
 simp only [evE] at ev
 obtain ⟨ds,ea,hd⟩:=es_ev ev
 refine ⟨G,F,δ,ds,δ',ok,ea,fun vs H1 F1 st1 sm1 ok1 r1=>?_⟩
 exact ⟨F1,ds,d,ok1.fd,r1.bl,hd,fun v H2 s2 r2=>post v H2 F1 (st1.trans (Step.of_same s2)) (fun z=>(sm1 z).trans (.of s2)) (ok1.same' s2) (relm r2)⟩
end
end PP
end
section
namespace PP
open PySem L2 PyProof.Rows
variable [Tbs]
section
variable {K:PySem.W.Frag} {cx:Cl} {X:Cx}
theorem snd_is {f:Blt} {e:E} {T:String} {y:Expr} {t:Str} {p pos tp:Pos} (hT:tyName f = some T) (ht:t = (T:Str)) (hg:Gl X "isinstance") (hm:X.mg "isinstance" = none) (hgt:Gl X t) (hmt:X.mg t = none) (hy:PE X y (tE X.K cx e)) (hs:starEach [y,.Name t tp] X.env = [(false,eval y X.env),(false,eval (.Name t tp) X.env)]) :
 PE X (.Call (.Name "isinstance" p) [y,.Name t tp] [] pos) (tE X.K cx (.blt f (.cons e .nil))):=by
 have hb:bootBuiltins t = some (.type T):=by
  subst ht
  cases f<;>simp [tyName] at hT<;>subst hT<;>rfl
 have hn:t≠"__name__":=by
  subst ht
  cases f<;>simp [tyName] at hT<;>subst hT<;>decide +kernel
 have hdb:(t == ("__debug__":Str)) = false:=by
  subst ht
  cases f<;>simp [tyName] at hT<;>subst hT<;>decide +kernel
 have hA:PA X [y,.Name t tp] (tCons (tE X.K cx e) (tCons (tC (.ty T)) tNil)):=pa_cons hy (pa_cons (pe_bltn hgt hmt hb rfl hn hdb) pa_nil rfl) hs
 refine PE.imp (pe_callB (call_isD hT) hg hm rfl hA (by decide +kernel) (by decide +kernel) hs rfl) fun σ H Q h=>?_
 obtain ⟨G,F,δ,d,δ',ok,ev,post⟩:=h
 simp only [evE] at ev
 obtain ⟨ds,ea,hd⟩:=es_ev ev
 simp only [evEs,Option.bind_eq_bind,Option.bind_eq_some_iff] at ea
 obtain ⟨⟨x,δ1⟩,ea,⟨ds',δ2⟩,eb,e2⟩:=ea
 cases eb
 cases e2
 obtain ⟨b,rfl⟩:∃ b,d = .bl b:=by
  cases f<;>simp [tyName] at hT<;>(cases x<;>simp [bltD,isTupD] at hd<;>exact ⟨_,hd.symm⟩)
 refine ⟨G,F,δ,x,δ1,ok,ea,fun v H1 F1 st1 sm1 ok1 r1=>?_⟩
 exact ⟨F1,x,v,b,r1.b,rfl,hd,post _ H1 F1 st1 (fun z=>sm1 (by have z':(np e && true) = true:=z;simpa using z')) ok1 (relm (rel_bl b))⟩
theorem snd_pop {i:Nat} {x:Str} {pos ap cp:Pos} (hN:X.N[i]? = some x) (hv:Vis X.env.scope x) (hd:(x == ("__debug__":Str)) = false) (hcd:(x == ("__classdict__":Str)) = false) (hl:ap.endLine = cp.line) :
 PE X (.Call (.Attribute (.Name x pos) "pop" ap) [] [] cp) (tE X.K cx (.pop i)):=by
 refine PE.imp (pe_bm0 PySem.F.plainAttrs_list PySem.F.slot_list_pop PySem.F.type_list_pop mt_pop (pe_var hN hv hd hcd) rfl (by simpa using hl)) fun σ H Q h=>?_
 obtain ⟨G,F,δ,d,δ',ok,ev,post⟩:=h
 simp only [evE] at ev
 cases q:δ[i]? with
 | none=>rw [q] at ev;cases ev
 | some s =>
   rw [q] at ev
   cases s with
   | no=>cases ev
   | fnc _ _=>cases ev
   | odc _ _=>cases ev
   | val _=>cases ev
   | own ds =>
     obtain ⟨a,xs,e1,h1,h2,h3,h4⟩:=ok.sl i _ q
     dsimp only at ev
     cases ql:ds.getLast? with
     | none=>rw [ql] at ev;cases ev
     | some d0 =>
       rw [ql] at ev
       cases ev
       have hlen:=h4.length
       have hg:ds[ds.length - 1]? = some d:=by rw [← List.getLast?_eq_getElem?];exact ql
       obtain ⟨w,hw,rw'⟩:=h4.get hg
       obtain ⟨o1,o2⟩:=ok.write q e1 (RelL.dropLast h4)
       refine ⟨.ref a,e1,.inl ⟨rfl,xs,.inl (.inl h3)⟩,a,xs,w,rfl,rfl,h3,by rw [hlen];exact hw,?_⟩
       exact post w _ F o2 (fun z=>absurd (show false = true from z) Bool.false_ne_true) o1 (relm (Rel.step ok.fd o2 d w rw'))
theorem wk_list {G:Gh} {H:Hp} {F:Addr→Prop} {a:Addr} {xs:List V} {ds:List D} (fd:FD F H) (h1:Ls K H F a xs) (h3:RelL K H F ds xs):Wk K G F H (Itl K a) ds:=by
 intro F2 H2 st fd2 i
 have h4:=(h1.step st).sq
 have h5:=RelL.step fd st ds xs h3
 refine ⟨fun d e=>?_,fun e=>⟨xs,h4,by rw [h5.length];omega⟩⟩
 obtain ⟨v,hv,rv⟩:=h5.get e
 refine ⟨⟨xs,v,h4,hv⟩,fun x H3 y=>?_⟩
 obtain ⟨e3,y⟩:=y
 refine ⟨e3,?_⟩
 have:=y xs h4
 rw [hv] at this
 cases this
 exact rv
theorem wk_tup {G:Gh} {H:Hp} {F:Addr→Prop} {a:Addr} {xs:List V} {ds:List D} (fd:FD F H) (h1:SqT K H a xs) (h3:RelL K H F ds xs):Wk K G F H (Itt K a) ds:=by
 intro F2 H2 st fd2 i
 have h4:=sqt_keep fd st.keep h1
 have h5:=RelL.step fd st ds xs h3
 refine ⟨fun d e=>?_,fun e=>⟨xs,h4,by rw [h5.length];omega⟩⟩
 obtain ⟨v,hv,rv⟩:=h5.get e
 refine ⟨⟨xs,v,h4,hv⟩,fun x H3 y=>?_⟩
 obtain ⟨e3,y⟩:=y
 refine ⟨e3,?_⟩
 have:=y xs h4
 rw [hv] at this
 cases this
 exact rv
theorem wk_str {G:Gh} {H:Hp} {F:Addr→Prop} {x:Str}:Wk K G F H (Its x) (x.cps.toList.map fun c=>D.str ⟨#[c]⟩):=by
 intro F2 H2 st fd2 i
 refine ⟨fun d e=>?_,fun e=>by show i = x.cps.size;simpa using e⟩
 rw [List.getElem?_map,Option.map_eq_some_iff] at e
 obtain ⟨c,hc,rfl⟩:=e
 have hc':x.cps[i]? = some c:=by simpa using hc
 refine ⟨(Array.getElem?_eq_some_iff.mp hc').1,fun v H3 y=>?_⟩
 obtain ⟨e3,c',h1,h2⟩:=y
 refine ⟨e3,?_⟩
 rw [hc'] at h1
 cases h1
 rw [h2]
 exact rel_str _
theorem wk_rng {G:Gh} {H:Hp} {F:Addr→Prop} {lo:Int} {n:Nat}:Wk K G F H (Itr lo n) (rngD lo n):=by
 intro F2 H2 st fd2 i
 unfold rngD
 refine ⟨fun d e=>?_,fun e=>by rw [e];simp;exact Nat.le_refl n⟩
 rw [List.getElem?_map,Option.map_eq_some_iff] at e
 obtain ⟨c,hc,rfl⟩:=e
 have hl:i < n:=by have:=(List.getElem?_eq_some_iff.mp hc).1;simpa using this
 rw [List.getElem?_range hl] at hc
 cases hc
 refine ⟨hl,fun v H3 y=>?_⟩
 obtain ⟨e3,h2⟩:=y
 exact ⟨e3,by rw [h2];exact rel_int _⟩
def iAny (K:PySem.W.Frag) (tl:TE):TI:=fun σ H R=>tl σ H fun v H1=>(∃ a,v = .ref a∧(∃ xs,SqL K H1 a xs)∧R (Itl K a) H1)∨(∃ a,v = .ref a∧(∃ xs,SqT K H1 a xs)∧R (Itt K a) H1)∨∃ x,v = .str x∧R (Its x) H1
theorem pi_any {tg l:Expr} {tl:TE} (hl:PE X l tl):PI X tg l (iAny X.K tl):=by
 intro pins s σ H R I h
 have key:∀ {v:Value} {s1:Shared} {x:V} {H1:Hp},Inv X pins σ H1 s1→RelV x v→((∃ a,x = .ref a∧(∃ xs,SqL X.K H1 a xs)∧R (Itl X.K a) H1)∨(∃ a,x = .ref a∧(∃ xs,SqT X.K H1 a xs)∧R (Itt X.K a) H1)∨∃ y,x = .str y∧R (Its y) H1) →
  wpAny (model X.prog X.w) X.A (pyIter v) (PIE X pins σ tg R) X.xe s1:=by
  intro v s1 x H1 I1 r1 q1
  rcases q1 with ⟨a,rfl,⟨xs,hq⟩,q⟩ | ⟨a,rfl,⟨xs,hq⟩,q⟩ | ⟨z,rfl,q⟩
  · cases r1
    obtain ⟨its,rv,p,hz⟩:=I1.list hq
    refine wpAny_pyIter_list p.isList ?_
    refine ⟨s1.heap.objs.size,[s1.heap.objs.size],_,_,H1,rfl,I1.kept (t':=s1.toks) fun b o e=>Heap.get?_push_of_some _ e,turn_list a _,⟨_,Heap.get?_push_size _ rfl,rfl,rfl⟩,fun b hb=>?_,q⟩
    have e:b = s1.heap.objs.size:=by simpa using hb
    subst e
    exact I1.fpOk (Nat.le_refl _) (I1.hok.fresh (Nat.le_refl _))
  · cases r1
    obtain ⟨its,rv,p,hz⟩:=I1.tuple hq
    refine wpAny_pyIter_tuple (show s1.heap.IsTuple a its.toArray from p) ?_
    refine ⟨s1.heap.objs.size,[s1.heap.objs.size],_,_,H1,rfl,I1.kept (t':=s1.toks) fun b o e=>Heap.get?_push_of_some _ e,turn_tuple a _,⟨_,Heap.get?_push_size _ rfl,rfl,rfl⟩,fun b hb=>?_,q⟩
    have e:b = s1.heap.objs.size:=by simpa using hb
    subst e
    exact I1.fpOk (Nat.le_refl _) (I1.hok.fresh (Nat.le_refl _))
  · obtain ⟨t,rfl⟩:=r1
    refine wpAny_pyIter_strU ?_
    refine ⟨s1.heap.objs.size,[s1.heap.objs.size],_,_,H1,rfl,I1.kept (t':=s1.toks) fun b o e=>Heap.get?_push_of_some _ e,turn_str s1.heap.objs.size z t,⟨_,Heap.get?_push_size _ rfl,rfl,rfl⟩,fun b hb=>?_,q⟩
    have e:b = s1.heap.objs.size:=by simpa using hb
    subst e
    exact I1.fpOk (Nat.le_refl _) (I1.hok.fresh (Nat.le_refl _))
 exact thn (hl pins s σ H _ I h) fun v s1 ⟨x,H1,I1,r1,q1⟩=>key I1 r1 q1
theorem PI.imp {tg l:Expr} {t t':TI} (h:PI X tg l t) (w:∀ σ H R,t' σ H R→t σ H R):PI X tg l t':=fun pins s σ H R I q=>h pins s σ H R I (w σ H R q)
theorem snd_sq {tg l:Expr} {e:E} (n:(!isPk e) = true) (hl:PE X l (tE X.K cx e)):PI X tg l (tI X.K cx (.sq e)):=by
 refine PI.imp (pi_any hl) fun σ H R h=>?_
 obtain ⟨G,F,δ,ds,δ',ok,ev,post⟩:=h
 simp only [evI,Option.bind_eq_bind,Option.bind_eq_some_iff] at ev
 obtain ⟨⟨d,δ1⟩,ea,ds',hd,e2⟩:=ev
 cases e2
 dsimp only at hd post
 refine ⟨G,F,δ,d,δ1,ok,ea,fun v H1 F1 st1 sm1 ok1 r1=>?_⟩
 have r:=rel_of n r1
 unfold items at hd
 split at hd
 · cases hd
   unfold Rel at r
   obtain ⟨a,xs,e1,h1,h3⟩:=r
   exact .inl ⟨a,e1,⟨xs,h1.sq⟩,post _ _ _ st1 sm1 ok1 (fun _=>wk_list ok1.fd h1 h3)⟩
 · cases hd
   unfold Rel at r
   obtain ⟨a,xs,e1,h1,h3⟩:=r
   exact .inr (.inl ⟨a,e1,⟨xs,h1⟩,post _ _ _ st1 sm1 ok1 (fun _=>wk_tup ok1.fd h1 h3)⟩)
 · split at hd
   · cases hd
     unfold Rel at r
     exact .inr (.inr ⟨_,r,post _ _ _ st1 sm1 ok1 fun _=>wk_str⟩)
   · cases hd
 · cases hd
theorem snd_rng {tg y:Expr} {e:E} {p pos:Pos} (n:(!isPk e) = true) (hg:Gl X "range") (hm:X.mg "range" = none) (hy:PE X y (tE X.K cx e)) (hs:starEach [y] X.env = [(false,eval y X.env)]):PI X tg (.Call (.Name "range" p) [y] [] pos) (tI X.K cx (.rng e)):=by
 refine PI.imp (pi_range1 hg hm (pa_cons hy pa_nil hs) hs) fun σ H R h=>?_
 obtain ⟨G,F,δ,ds,δ',ok,ev,post⟩:=h
 simp only [evI,Option.bind_eq_bind,Option.bind_eq_some_iff] at ev
 obtain ⟨⟨d,δ1⟩,ea,ev⟩:=ev
 cases d with
 | int j =>
   dsimp only at ev
   split at ev
   · rename_i hj
     cases ev
     refine ⟨G,F,δ,.int j,_,ok,ea,fun v H1 F1 st1 sm1 ok1 r1=>?_⟩
     have r:=rel_of n r1
     unfold Rel at r
     subst r
     exact ⟨j,rfl,hj.1,hj.2,post _ _ _ st1 sm1 ok1 fun _=>wk_rng⟩
   · cases ev
 | _=>cases ev
theorem snd_rng2 {tg y z:Expr} {a b:E} {p pos:Pos} (na:(!isPk a) = true) (nb:(!isPk b) = true) (hg:Gl X "range") (hm:X.mg "range" = none) (hy:PE X y (tE X.K cx a)) (hz:PE X z (tE X.K cx b)) (hs:starEach [y,z] X.env = [(false,eval y X.env),(false,eval z X.env)]) (hs2:starEach [z] X.env = [(false,eval z X.env)]) :
 PI X tg (.Call (.Name "range" p) [y,z] [] pos) (tI X.K cx (.rng2 a b)):=by
 refine PI.imp (pi_range2 hg hm (pa_cons hy (pa_cons hz pa_nil hs2) (by rw [hs,hs2])) hs hs2) fun σ H R h=>?_
 obtain ⟨G,F,δ,ds,δ',ok,ev,post⟩:=h
 simp only [evI,Option.bind_eq_bind,Option.bind_eq_some_iff] at ev
 obtain ⟨⟨d,δ1⟩,ea,ev⟩:=ev
 cases d with
 | int i =>
   simp only [Option.bind_eq_bind,Option.bind_eq_some_iff] at ev
   obtain ⟨⟨d2,δ2⟩,eb,ev⟩:=ev
   cases d2 with
   | int j =>
     dsimp only at ev
     split at ev
     · rename_i hj
       cases ev
       have pc:(!isPk a || np b) = true:=by rw [na];rfl
       refine two ok ea eb pc fun v u H2 F2 st sm ok2 r1 r2=>?_
       have e1:=rel_of na r1
       have e2:=rel_of nb r2
       unfold Rel at e1 e2
       subst e1;subst e2
       exact ⟨i,j,rfl,hj,post _ _ _ st sm ok2 fun _=>wk_rng⟩
     · cases ev
   | _=>cases ev
 | _=>cases ev
end
end PP
end
section
namespace PP
open PySem L2 PyProof.Rows
variable [Tbs]
def spO (K:PySem.W.Frag) (f:List D→Option D):Sp:=fun vs H Q _=>∃ F ds zs,FD F H∧TF F∧Tabs H∧RelL K H F ds vs∧f ds = some zs∧∀ a u H',Sim H H'→Tabs H'→H a = none→H' a = some u→RelO K H' (fun b=>F b∨b = a) zs u→Q (.ref a) H'
structure Cok (X:Cx) (c:Ck) (cx:Cl) (k:Nat):Prop where
 hN:X.N = c.N
 nd:c.N.Nodup
 vis:∀ x,Vis c.sc x→Vis X.env.scope x
 gl:∀ x,c.sc.names.lookup x = some .globalImplicit→Gl X x
 st:∀ x,L2.Loc c.sc x→L2.Loc X.env.scope x∧(X.fn x = true∨X.env.scope.names.lookup x = some .local)
 kc:∀ x,(c.sc.names.lookup x = some .cell∨c.sc.names.lookup x = some .free)→X.env.kindOf x = some .cell∨X.env.kindOf x = some .free
 calm:X.calm = true
 xe:X.xe = fun _ _=>False
 room:Room k X.A
 fns:∀ (f:Nat) (x:Str) (ps:List Str),c.fns[f]? = some (x,ps)→∃ a fd,X.mg x = some (.ref a)∧PySem.W.keepIn X.K (.ref a) = true∧Binds X.K fd ps []∧FnOk X.prog X.w X.K X.mg X.base CX0 k a fd ps (spF X.K (cx.call f))
 fnO:∀ (f:Nat) (x:Str) (ps:List Str),c.fns[f]? = some (x,ps)→∃ a fd,X.mg x = some (.ref a)∧PySem.W.keepIn X.K (.ref a) = true∧Binds X.K fd ps []∧FnOk X.prog X.w X.K X.mg X.base CX0 k a fd ps (spO X.K (cx.call (f+own0)))
 blt:∀ x,x∈bltNames→X.mg x = none
 glob:∀ (g:Nat) (x:Str) (d:D),c.gn[g]? = some x→cx.gl[g]? = some d→∃ u v,X.mg x = some u∧RelV v u∧∀ H F,Rel X.K H F d v
 gsome:∀ (g:Nat) (x:Str),c.gn[g]? = some x→∃ d,cx.gl[g]? = some d
theorem visB_vis {sc:Scope} {x:Str} (h:visB sc x = true):Vis sc x:=by
 unfold visB at h
 split at h
 · exact .inl ‹_›
 · exact .inr (.inl ‹_›)
 · exact .inr (.inr ‹_›)
 · cases h
theorem locB_loc {sc:Scope} {x:Str} (h:locB sc x = true):L2.Loc sc x:=by
 unfold locB at h
 split at h
 · exact .inl ‹_›
 · exact .inr ‹_›
 · cases h
theorem glB_gl {sc:Scope} {x:Str} (h:glB sc x = true):sc.names.lookup x = some .globalImplicit:=by
 unfold glB at h
 split at h
 · assumption
 · cases h
theorem nmOk_of {x:Str} (h:nmOk x = true):(x == ("__debug__":Str)) = false∧(x == ("__classdict__":Str)) = false∧x≠("__name__":Str):=by
 unfold nmOk at h
 rw [Bool.and_eq_true,Bool.and_eq_true] at h
 refine ⟨by simpa using h.1.1,by simpa using h.1.2,?_⟩
 have:=h.2
 intro z
 subst z
 revert this
 decide +kernel
section
variable {X:Cx} {c:Ck} {cx:Cl} {k:Nat}
theorem Cok.name (C:Cok X c cx k) {i:Nat} {x:Str} (h:nameIs c i x = true):X.N[i]? = some x∧Vis X.env.scope x∧(x == ("__debug__":Str)) = false∧(x == ("__classdict__":Str)) = false:=by
 unfold nameIs at h
 rw [Bool.and_eq_true,Bool.and_eq_true] at h
 obtain ⟨⟨h1,h2⟩,h3⟩:=h
 obtain ⟨n1,n2,n3⟩:=nmOk_of h3
 exact ⟨by rw [C.hN];exact of_decide_eq_true h1,C.vis x (visB_vis h2),n1,n2⟩
theorem Cok.to (C:Cok X c cx k) {i:Nat} {x:Str} (h:nameTo c i x = true):X.N[i]? = some x∧L2.Loc X.env.scope x∧(X.fn x = true∨X.env.scope.names.lookup x = some .local):=by
 unfold nameTo at h
 rw [Bool.and_eq_true,Bool.and_eq_true] at h
 obtain ⟨⟨h1,h2⟩,h3⟩:=h
 obtain ⟨s1,s2⟩:=C.st x (locB_loc h2)
 exact ⟨by rw [C.hN];exact of_decide_eq_true h1,s1,s2⟩
theorem Cok.global (C:Cok X c cx k) {x:Str} (h:globIs c x = true):Gl X x∧(x == ("__debug__":Str)) = false∧x≠("__name__":Str):=by
 unfold globIs at h
 rw [Bool.and_eq_true] at h
 obtain ⟨n1,n2,n3⟩:=nmOk_of h.2
 exact ⟨C.gl x (glB_gl h.1),n1,n3⟩
theorem Cok.units (C:Cok X c cx k):X.A.units+200 < cLine:=by have:=C.room.un;omega
theorem Cok.nd' (C:Cok X c cx k):X.N.Nodup:=by rw [C.hN];exact C.nd
def gNames:List Nat→TGs
 | []=>gNil
 | i::is=>gCons (gName i) (gNames is)
def gSeq (K:PySem.W.Frag) (n:Nat) (t:TGs):TG:=fun v σ H Q=>∃ a xs,v = .ref a∧(SqT K H a xs∨SqL K H a xs)∧xs.length = n∧t xs σ H Q
theorem assign_Tuple_list {prog:Program} {w:World} {A:Around} {E:Value→Shared→Prop} {s:Shared} {env:Env} {elts:List Expr} {x1} {pos:Pos} {t:Addr} {items:Array Value} {Q:Unit→Shared→Prop} (hh:A.handled = none) (ht:s.heap.IsList t items)
 (hn:(assignEach elts env).length = items.size) (hstar:(assignEach elts env).findIdx? (·.1) = none)
 (h:∀ h',Heap.ExtBut s.heap.objs.size s.heap h'→wpAny (model prog w) A (assignInOrder ((assignEach elts env).map (·.2)) items.toList) Q E { s with heap:=h' }) :
 wpAny (model prog w) A (assign (.Tuple elts x1 pos) env (.ref t)) Q E s:=by
 rw [assign_Tuple]
 refine wpAny_bind (wpAny_standAt ?_)
 unfold unpack
 rw [hn,hstar]
 exact wpAny_bind (wpAny_holding (PySem.W.kun_itemsOf hh ht h))
theorem pg_seq {X:Cx} {es:List Expr} {k:Nat} {t:TGs} {n:Nat} {pos:Pos} (hc:X.calm = true) (h:PGs X es t)
 (hn:(assignEach es X.env).length = n:=by rfl) (hst:(assignEach es X.env).findIdx? (·.1) = none:=by rfl):PG X (.Tuple es k pos) (gSeq X.K n t):=by
 intro pins s σ H v u Q I r hw
 obtain ⟨a,xs,e1,hq,hl,hw⟩:=hw
 rcases hq with hq | hq
 · exact pg_tup hc h hn hst pins s σ H v u Q I r ⟨a,xs,e1,hq,hl,hw⟩
 · subst e1
   cases r
   obtain ⟨its,rv,pl,hz⟩:=I.list hq
   refine assign_Tuple_list (I.ok.hd hc) pl.isList (by simp [hn,← hl,rv.length]) hst fun h' hx=>?_
   have I1:Inv X pins σ H { s with heap:=h' }:=I.kept (t':=s.toks) fun b o e=>hx b o (Nat.ne_of_lt (Heap.lt_size e)) e
   exact h pins _ σ H xs _ Q I1 (by simpa using rv) hw
def gTg (K:PySem.W.Frag):Tg→TG
 | .nm i=>gName i
 | .tp is=>gSeq K is.length (gNames is)
 | .pr i is=>gSeq K 2 (gCons (gName i) (gCons (gSeq K is.length (gNames is)) gNil))
theorem pgs_names (C:Cok X c cx k):∀ (is:List Nat) (es:List Expr),ckNs c is es = true→PGs X es (gNames is)∧(assignEach es X.env).length = is.length∧(assignEach es X.env).findIdx? (·.1) = none
 | [],es,h=>by
   obtain ⟨rfl,_⟩:=on0_of h
   exact ⟨pgs_nil,rfl,rfl⟩
 | i::is,es,h=>by
   obtain ⟨e,r,rfl,hh⟩:=onS_of h
   rw [Bool.and_eq_true] at hh
   obtain ⟨x,p,rfl,h1⟩:=onName_of hh.1
   obtain ⟨q1,q2,q3⟩:=pgs_names C is r hh.2
   obtain ⟨n1,n2,n3⟩:=C.to h1
   refine ⟨pgs_cons (pg_name C.nd' n1 n2 n3) q1 rfl,?_,?_⟩
   · show (assignEach r X.env).length+1 = _
     rw [q2];rfl
   · show List.findIdx? _ ((false,_)::assignEach r X.env) = none
     rw [List.findIdx?_cons,q3]
     rfl
theorem snd_tg (C:Cok X c cx k) {tg:Tg} {t:Expr} (h:ckTg c tg t = true):PG X t (gTg X.K tg):=by
 cases tg with
 | nm i =>
   obtain ⟨_,_,rfl,h1⟩:=onName_of h
   obtain ⟨n1,n2,n3⟩:=C.to h1
   exact pg_name C.nd' n1 n2 n3
 | tp is =>
   obtain ⟨_,_,_,rfl,h1⟩:=onTup_of h
   obtain ⟨q1,q2,q3⟩:=pgs_names C _ _ h1
   exact pg_seq C.calm q1 q2 q3
 | pr i is =>
   obtain ⟨_,_,_,rfl,h1⟩:=onTup_of h
   obtain ⟨_,_,rfl,h2⟩:=on2_of h1
   rw [Bool.and_eq_true] at h2
   obtain ⟨_,_,rfl,h3⟩:=onName_of h2.1
   obtain ⟨_,_,_,rfl,h4⟩:=onTup_of h2.2
   obtain ⟨n1,n2,n3⟩:=C.to h3
   obtain ⟨q1,q2,q3⟩:=pgs_names C _ _ h4
   exact pg_seq C.calm (pgs_cons (pg_name C.nd' n1 n2 n3) (pgs_cons (pg_seq C.calm q1 q2 q3) pgs_nil rfl) rfl) rfl rfl
theorem take_set {α:Type} (l:List α) (i n:Nat) (x:α) (h:n≤i):(l.set i x).take n = l.take n:=by
 apply List.ext_getElem?
 intro j
 by_cases hj:j < n
 · rw [List.getElem?_take_of_lt hj,List.getElem?_take_of_lt hj,List.getElem?_set_ne (by omega)]
 · rw [List.getElem?_eq_none (by rw [List.length_take];omega),List.getElem?_eq_none (by rw [List.length_take];omega)]
theorem tg_names {K:PySem.W.Frag} {G:Gh} {H:Hp} {F:Addr→Prop} {Q:L2.St→Hp→Prop}:∀ (is:List Nat) (ds:List D) (xs:List V) (σ:L2.St) (δ:Loc),Ok K G F σ H δ→RelL K H F ds xs→is.length = ds.length→is.all (· < δ.length) = true →
 (∀ σ',Ok K G F σ' H ((is.zip ds).foldl (fun δ p=>δ.set p.1 (.val p.2)) δ)→(∀ n,(is.all fun i=>decide (n≤i)) = true→σ'.take n = σ.take n)→Q σ' H)→gNames is xs σ H Q
 | [],ds,xs,σ,δ,ok,r,hl,_,q=>by
   have:ds = []:=List.length_eq_zero_iff.mp hl.symm
   subst this
   unfold RelL at r
   exact ⟨r,q σ ok fun _ _=>rfl⟩
 | i::is,[],xs,σ,δ,ok,r,hl,_,q=>by simp at hl
 | i::is,d::ds,xs,σ,δ,ok,r,hl,ha,q=>by
   unfold RelL at r
   obtain ⟨y,ys,rfl,r1,r2⟩:=r
   rw [List.all_cons,Bool.and_eq_true] at ha
   refine ⟨y,ys,rfl,?_⟩
   refine tg_names is ds ys (σ.set i (some y)) (δ.set i (.val d)) (ok.set (of_decide_eq_true ha.1) r1) r2 (by simpa using hl) ?_ fun σ' o t=>q σ' o fun n hn=>?_
   · rw [List.length_set];exact ha.2
   · rw [List.all_cons,Bool.and_eq_true] at hn
     rw [t n hn.2,take_set _ _ _ _ (of_decide_eq_true hn.1)]
theorem tg_read {K:PySem.W.Frag} {G:Gh} {H:Hp} {F:Addr→Prop} {σ:L2.St} {δ δ':Loc} {tg:Tg} {d:D} {v:V} {Q:L2.St→Hp→Prop} (ok:Ok K G F σ H δ) (r:Rel K H F d v) (e:setTg δ tg d = some δ') (q:∀ σ',Ok K G F σ' H δ'→(∀ n,tgGe n tg = true→σ'.take n = σ.take n)→Q σ' H):gTg K tg v σ H Q:=by
 unfold setTg at e
 split at e
 · split at e
   · cases e
     exact q _ (ok.set ‹_› r) fun n hn=>take_set _ _ _ _ (of_decide_eq_true hn)
   · cases e
 · split at e
   · rename_i hh
     cases e
     unfold Rel at r
     obtain ⟨a,xs,e1,h1,h2⟩:=r
     exact ⟨a,xs,e1,.inl h1,by rw [h2.length];exact hh.1.symm,tg_names _ _ _ _ _ ok h2 hh.1 hh.2 q⟩
   · cases e
 · split at e
   · rename_i hh
     cases e
     unfold Rel at r
     obtain ⟨a,xs,e1,h1,h2⟩:=r
     exact ⟨a,xs,e1,.inr h1.b.sq,by rw [h2.length];exact hh.1.symm,tg_names _ _ _ _ _ ok h2 hh.1 hh.2 q⟩
   · cases e
 · split at e
   · rename_i hh
     cases e
     unfold Rel at r
     obtain ⟨a,xs,e1,h1,h2⟩:=r
     unfold RelL at h2
     obtain ⟨y,ys,rfl,r1,r2⟩:=h2
     unfold RelL at r2
     obtain ⟨z,zs,rfl,r3,r4⟩:=r2
     unfold RelL at r4
     subst r4
     unfold Rel at r3
     obtain ⟨b,ws,e2,h3,h4⟩:=r3
     refine ⟨a,[y,z],e1,.inl h1,rfl,y,[z],rfl,z,[],rfl,b,ws,e2,.inl h3,by rw [h4.length];exact hh.2.1.symm,?_⟩
     refine tg_names _ _ _ _ _ (ok.set hh.1 r1) h4 hh.2.1 (by rw [List.length_set];exact hh.2.2) fun σ' o t=>⟨rfl,q σ' o fun n hn=>?_⟩
     have hn':=(Bool.and_eq_true _ _).mp (show (decide (n≤_) && _) = true from hn)
     rw [t n hn'.2,take_set _ _ _ _ (of_decide_eq_true hn'.1)]
   · cases e
 · cases e
theorem Ok.ext {K:PySem.W.Frag} {G:Gh} {H:Hp} {F:Addr→Prop} {σ:L2.St} {δ:Loc} (h:Ok K G F σ H δ) (tl:L2.St):Ok K G F (σ++tl) H (δ++List.replicate tl.length .no):=by
 have low:∀ (j:Nat) (s:Sl),(δ++List.replicate tl.length .no)[j]? = some s→s = .no∨(δ[j]? = some s∧(σ++tl)[j]? = σ[j]?):=fun j s e=>by
  by_cases hj:j < δ.length
  · rw [List.getElem?_append_left hj] at e
    exact .inr ⟨e,List.getElem?_append_left (by rw [← h.len];exact hj)⟩
  · rw [List.getElem?_append_right (by omega),List.getElem?_replicate] at e
    split at e
    · cases e;exact .inl rfl
    · cases e
 refine ⟨h.same,h.fd,h.rf,h.rl,h.tf,h.tabs,by rw [List.length_append,List.length_append,List.length_replicate,h.len],fun j s e=>?_,fun i j s t a e1 e2 o1 o2 p1 p2=>?_⟩
 · rcases low j s e with rfl | ⟨e1,e2⟩
   · trivial
   · rw [e2];exact h.sl j s e1
 · rcases low i _ e1 with z | ⟨a1,a2⟩
   · subst z;cases o1
   · rcases low j _ e2 with z | ⟨b1,b2⟩
     · subst z;cases o2
     · rw [a2] at p1;rw [b2] at p2
       exact h.apart i j s t a a1 b1 o1 o2 p1 p2
theorem Ok.cut {K:PySem.W.Frag} {G:Gh} {H:Hp} {F:Addr→Prop} {σ:L2.St} {δ:Loc} (h:Ok K G F σ H δ) (n:Nat):Ok K G F (σ.take n) H (δ.take n):=by
 have low:∀ (j:Nat) (s:Sl),(δ.take n)[j]? = some s→δ[j]? = some s∧(σ.take n)[j]? = σ[j]? := fun j s e=>by
  by_cases hj:j < n
  · rw [List.getElem?_take_of_lt hj] at e
    exact ⟨e,List.getElem?_take_of_lt hj⟩
  · rw [List.getElem?_eq_none (by rw [List.length_take];omega)] at e;cases e
 refine ⟨h.same,h.fd,h.rf,h.rl,h.tf,h.tabs,by rw [List.length_take,List.length_take,h.len],fun j s e=>?_,fun i j s t a e1 e2 o1 o2 p1 p2=>?_⟩
 · obtain ⟨e1,e2⟩:=low j s e
   rw [e2];exact h.sl j s e1
 · obtain ⟨a1,a2⟩:=low i _ e1
   obtain ⟨b1,b2⟩:=low j _ e2
   rw [a2] at p1;rw [b2] at p2
   exact h.apart i j s t a a1 b1 o1 o2 p1 p2
def Gh.and (G:Gh) (D:Addr):Gh:=⟨G.h,fun b=>G.R b∨b = D⟩
theorem Ok.free {K:PySem.W.Frag} {G:Gh} {H:Hp} {F:Addr→Prop} {σ:L2.St} {δ:Loc} {p:Addr} (h:Ok K G F σ H δ) (hp:H p = none):G.free p:=by
 refine ⟨?_,fun z=>?_⟩
 · cases e:G.h p with
   | none=>rfl
   | some o =>
     by_cases t:NT o
     · rw [h.same.nt p o t e] at hp
       cases hp
     · cases o<;>first | (exact absurd trivial t) | skip
       obtain ⟨qs,z⟩:=h.same.tb p _ e
       rw [z] at hp
       cases hp
 · obtain ⟨o,e,_⟩:=h.rl p z
   rw [hp] at e;cases e
theorem Ok.enterO {K:PySem.W.Frag} {G:Gh} {H:Hp} {F:Addr→Prop} {σ:L2.St} {δ:Loc} {p:Addr} (h:Ok K G F σ H δ) (hp:H p = none) {u:HO} (hu:Mo u):Ok K (G.and p) (fun b=>F b∨b = p) σ (upd H p u) δ∧Step G F H (fun b=>F b∨b = p) (upd H p u):=by
 have nF:¬ F p:=not_F h.fd hp
 have sm:=same_new hp u
 have st:∀ G':Gh,Step G' F H (fun b=>F b∨b = p) (upd H p u):=fun G'=>⟨fun b o _ e _=>sm b o e,fun b z=>by rcases z with z | z;exact .inl z;exact .inr (by rw [z];exact hp),fun b o _ f e=>⟨.inl f,sm b o e⟩,fun b ps e=>⟨ps,sm b _ e⟩⟩
 refine ⟨⟨h.same.trans (.of sm),fun b z=>?_,fun b z=>?_,fun b z=>?_,fun t ht=>.inl (h.tf t ht),h.tabs.keep fun b o _ e=>sm b o e,h.len,fun j s e=>?_,h.apart⟩,st G⟩
 · rcases z with z | z
   · exact h.fd.same sm b z
   · rw [z];exact ⟨u,upd_same,.inl hu⟩
 · rcases z with z | z
   · exact .inl (h.rf b z)
   · exact .inr z
 · rcases z with z | z
   · exact rl_same h.rl sm b z
   · rw [z];exact ⟨u,upd_same,hu⟩
 · exact SlOk.stay0 h.fd (st G) (fun a v _ f1 _ f3=>⟨.inl f1,sm _ _ f3⟩) (SlOk.free (G:=G) (G':=G.and p) (fun a f1 f2=>⟨f2.1,fun z=>Or.elim z f2.2 fun w=>nF (w▸f1)⟩) (h.sl j s e))
theorem Ok.enter {K:PySem.W.Frag} {G:Gh} {H:Hp} {F:Addr→Prop} {σ:L2.St} {δ:Loc} {p:Addr} (h:Ok K G F σ H δ) (hp:H p = none) (xs:List V):Ok K (G.and p) (fun b=>F b∨b = p) σ (upd H p (.lst xs)) δ∧Step G F H (fun b=>F b∨b = p) (upd H p (.lst xs)):=h.enterO hp trivial
theorem Ok.pokeO {K:PySem.W.Frag} {G:Gh} {H:Hp} {F:Addr→Prop} {σ:L2.St} {δ:Loc} {p:Addr} {x u:HO} (h:Ok K (G.and p) F σ H δ) (hg:G.free p) (hP:H p = some x) (hx:Mo x) (hu:Mo u):Ok K (G.and p) F σ (upd H p u) δ:=by
 have hF:F p:=h.rf p (.inr rfl)
 have nt:=hx.nt
 have st0:Step g0 F H F (upd H p u):=⟨fun b o _ e n=>by rw [upd_ne (fun z:b = p=>n (by rw [z];exact hF))];exact e,fun b z=>.inl z,fun _ _ r _ _=>r.elim,fun b ps e=>⟨ps,by rw [upd_ne (fun w:b = p=>by rw [w,hP] at e;cases e;exact nt)];exact e⟩⟩
 refine ⟨⟨fun b o t e=>?_,fun b ps e=>?_⟩,fun b z=>?_,h.rf,fun b z=>?_,h.tf,h.tabs.keep fun b o n e=>?_,h.len,fun j s e=>?_,h.apart⟩
 · rw [upd_ne (fun z:b = p=>by have e':G.h b = some o:=e;rw [z,hg.1] at e';cases e')]
   exact h.same.nt b o t e
 · rw [upd_ne (fun z:b = p=>by have e':G.h b = some _:=e;rw [z,hg.1] at e';cases e')]
   exact h.same.tb b ps e
 · by_cases hb:b = p
   · rw [hb];exact ⟨u,upd_same,.inl hu⟩
   · rw [upd_ne hb];exact h.fd b z
 · by_cases hb:b = p
   · rw [hb];exact ⟨u,upd_same,hu⟩
   · rw [upd_ne hb];exact h.rl b z
 · rw [upd_ne (fun w:b = p=>by rw [w,hP] at e;cases e;exact n hx)]
   exact e
 · exact SlOk.stay0 h.fd st0 (fun a v _ f1 f2 f3=>⟨f1,by rw [upd_ne (fun z:a = p=>f2.2 (.inr z))];exact f3⟩) (h.sl j s e)
theorem Ok.poke {K:PySem.W.Frag} {G:Gh} {H:Hp} {F:Addr→Prop} {σ:L2.St} {δ:Loc} {p:Addr} {zs:List V} (h:Ok K (G.and p) F σ H δ) (hg:G.free p) (hP:H p = some (.lst zs)) (xs:List V):Ok K (G.and p) F σ (upd H p (.lst xs)) δ:=h.pokeO hg hP trivial trivial
theorem Ok.leave {K:PySem.W.Frag} {G:Gh} {H:Hp} {F:Addr→Prop} {σ:L2.St} {δ:Loc} {p:Addr} (h:Ok K (G.and p) F σ H δ) (hg:G.free p):Ok K G (fun b=>F b∧b≠p) σ H δ:=by
 have hs:∀ b,(F b∧b≠p)→F b:=fun b z=>z.1
 have tf':TF fun b=>F b∧b≠p:=fun t ht=>⟨h.tf t ht,fun w=>by
  obtain ⟨ps,e,_⟩:=h.tabs t ht
  obtain ⟨o,hP,m⟩:=h.rl p (.inr rfl)
  rw [w,hP] at e
  cases e
  exact m⟩
 refine ⟨h.same,fun b z=>h.fd b z.1,fun b z=>⟨h.rf b (.inl z),fun w=>hg.2 (by rw [← w];exact z)⟩,fun b z=>h.rl b (.inl z),tf',h.tabs,h.len,fun j s e=>?_,h.apart⟩
 refine ((h.sl j s e).less h.fd hs fun a z za=>?_).free (G:=G.and p) (G':=G) fun b _ z=>⟨z.1,fun w=>z.2 (Or.inl w)⟩
 obtain ⟨a',u,d,e1,f1,f2,_⟩:=SlOk.ow (h.sl j s e) z
 rw [za] at e1
 cases e1
 exact ⟨f1,fun w=>f2.2 (.inr w)⟩
theorem Ok.keep {K:PySem.W.Frag} {G:Gh} {H:Hp} {F:Addr→Prop} {σ:L2.St} {δ:Loc} {p:Addr} (h:Ok K (G.and p) F σ H δ):Ok K G F σ H δ :=
 ⟨h.same,h.fd,fun b z=>h.rf b (.inl z),fun b z=>h.rl b (.inl z),h.tf,h.tabs,h.len,fun j s e=>(h.sl j s e).free (G:=G.and p) (G':=G) fun b _ z=>⟨z.1,fun w=>z.2 (Or.inl w)⟩,h.apart⟩
end
end PP
end
section
namespace PP
open PySem L2 PyProof.Rows
variable [Tbs]
section
variable {K:PySem.W.Frag} {cx:Cl}
def compF (cx:Cl) (k:Nat) (tg:Tg) (ifs:Eo) (elt:E):D→Loc→Option (Option D × Loc):=fun x δ0=>do
 let δ2 ← setTg (δ0++List.replicate k .no) tg x
 let (b,δ3) ← evG cx ifs δ2
 if b then do
  let (y,δ4) ← evE cx elt δ3
  return (some y,δ4.take δ0.length)
 else return (none,δ3.take δ0.length)
theorem comp_ev {k:Nat} {tg:Tg} {src:It} {ifs:Eo} {elt:E} {δ δ':Loc} {d:D} (ev:evE cx (.comp k tg src ifs elt) δ = some (d,δ')) :
 ∃ ds δ1 ys,evI cx src δ = some (ds,δ1)∧compL (compF cx k tg ifs elt) ds δ1 = some (ys,δ')∧ys.length≤sizeLine∧d = .lst ys:=by
 simp only [evE,Option.bind_eq_bind,Option.bind_eq_some_iff] at ev
 obtain ⟨⟨ds,δ1⟩,ea,⟨ys,δ2⟩,eb,ev⟩:=ev
 split at ev
 · cases ev
   exact ⟨ds,δ1,ys,ea,eb,‹_›,rfl⟩
 · cases ev
theorem compF_inv {k:Nat} {tg:Tg} {ifs:Eo} {elt:E} {x:D} {δ0 δ1:Loc} {o:Option D} (h:compF cx k tg ifs elt x δ0 = some (o,δ1)):∃ δ2 b δ3,setTg (δ0++List.replicate k .no) tg x = some δ2∧evG cx ifs δ2 = some (b,δ3) ∧
 ((b = true∧∃ y δ4,evE cx elt δ3 = some (y,δ4)∧o = some y∧δ1 = δ4.take δ0.length)∨(b = false∧o = none∧δ1 = δ3.take δ0.length)):=by
 unfold compF at h
 simp only [Option.bind_eq_bind,Option.bind_eq_some_iff] at h
 obtain ⟨δ2,e1,⟨b,δ3⟩,e2,h⟩:=h
 refine ⟨δ2,b,δ3,e1,e2,?_⟩
 cases b with
 | true =>
   simp only [if_true,Option.bind_eq_some_iff] at h
   obtain ⟨⟨y,δ4⟩,e3,h⟩:=h
   cases h
   exact .inl ⟨rfl,y,δ4,e3,rfl,rfl⟩
 | false =>
   simp only [Bool.false_eq_true,if_false] at h
   cases h
   exact .inr ⟨rfl,rfl,rfl⟩
theorem compL_cons {f:D→Loc→Option (Option D × Loc)} {x:D} {xs ys:List D} {δ δ':Loc} (h:compL f (x::xs) δ = some (ys,δ')):∃ o δ1 zs,f x δ = some (o,δ1)∧compL f xs δ1 = some (zs,δ')∧ys = (match o with | some y=>y::zs | none=>zs):=by
 unfold compL at h
 simp only [Option.bind_eq_bind,Option.bind_eq_some_iff] at h
 obtain ⟨⟨o,δ1⟩,e1,⟨zs,δ2⟩,e2,h⟩:=h
 cases h
 exact ⟨o,δ1,zs,e1,e2,rfl⟩
theorem Step.sub {G G':Gh} {F F':Addr→Prop} {H H':Hp} (h:Step G' F H F' H') (hs:∀ b,G.R b→G'.R b):Step G F H F' H':=⟨h.keep,h.grow,fun b o r=>h.res b o (hs b r),h.tb⟩
theorem fold_len:∀ (ps:List (Nat × D)) (δ:Loc),(ps.foldl (fun δ p=>δ.set p.1 (Sl.val p.2)) δ).length = δ.length:=by
 intro ps
 induction ps with
 | nil=>intro δ;rfl
 | cons a r ih=>intro δ;rw [List.foldl_cons,ih,List.length_set]
theorem setTg_len {δ δ':Loc} {tg:Tg} {d:D} (es:setTg δ tg d = some δ'):δ'.length = δ.length:=by
 unfold setTg at es
 split at es
 · split at es
   · cases es;rw [List.length_set]
   · cases es
 · split at es
   · cases es;rw [fold_len]
   · cases es
 · split at es
   · cases es;rw [fold_len]
   · cases es
 · split at es
   · cases es;rw [fold_len,List.length_set]
   · cases es
 · cases es
theorem comp_turns {G:Gh} {F1:Addr→Prop} {H1:Hp} {σ:L2.St} {J:L2.It} {ds ys:List D} {δ1 δ2:Loc} {k:Nat} {tg:Tg} {ifs:Eo} {elt:E} {p:Addr} {Q:L2.St→Hp→Prop} (n:(!isPk elt) = true) (hge:tgGe σ.length tg = true)
 (ok1:Ok K G F1 σ H1 δ1) (wk:Wk K G F1 H1 J ds) (hp:H1 p = none) (ev:compL (compF cx k tg ifs elt) ds δ1 = some (ys,δ2)) (hz:ys.length≤sizeLine)
 (q:∀ σ' H2 F2 xs,Ok K (G.and p) F2 σ H2 δ2→H2 p = some (.lst xs)→RelL K H2 F2 ys xs→Step G F1 H1 F2 H2→((npO ifs && np elt) = true→Sim H1 H2)→Q σ' H2) :
 tLp J (gTg K tg) (tG K cx ifs) (tEmit p (tE K cx elt)) (σ++List.replicate k none) (upd H1 p (.lst [])) Q:=by
 have hg:=ok1.free hp
 obtain ⟨ok2,st2⟩:=ok1.enter hp []
 have hFs:∀ b,G.R b→(G.and p).R b:=fun b z=>.inl z
 refine ⟨fun i m σc Hc=>∃ F' δi zs xs yi,m = ds.length - i∧i≤ds.length∧(∃ tl:L2.St,σc = σ++tl∧tl.length = k)∧Ok K (G.and p) F' σ Hc δi∧compL (compF cx k tg ifs elt) (ds.drop i) δi = some (zs,δ2)∧yi++zs = ys∧Hc p = some (.lst xs)∧RelL K Hc F' yi xs∧Step G F1 H1 F' Hc ∧
  ((npO ifs && np elt) = true→Sim H1 Hc),⟨ds.length,fun b=>F1 b∨b = p,δ1,ys,[],[],by simp,Nat.zero_le _,⟨_,rfl,by simp⟩,ok2,ev,rfl,upd_same,RelL.nil,st2,fun _=>.of (same_new hp _)⟩,?_⟩
 rintro i m σc Hc ⟨F',δi,zs,xs,yi,rfl,hi,⟨tl,rfl,htl⟩,ok,el,ey,eD,rl,st,sm⟩
 have hF:F' p:=ok.rf p (.inr rfl)
 by_cases hlt:i < ds.length
 · obtain ⟨d,hd⟩:∃ d,ds[i]? = some d:=⟨ds[i],by simp [hlt]⟩
   obtain ⟨go,yl⟩:=(wk F' Hc st ok.fd i).1 d hd
   refine .inr ⟨go,fun x H3 hy=>?_⟩
   obtain ⟨e3,rx⟩:=yl x H3 hy
   subst e3
   have edr:ds.drop i = d::ds.drop (i+1):=by
    rw [List.drop_eq_getElem_cons hlt]
    congr 1
    rw [List.getElem?_eq_getElem hlt] at hd
    exact Option.some.inj hd
   rw [edr] at el
   obtain ⟨o,δ5,zs',ef,el',ez⟩:=compL_cons el
   obtain ⟨δ6,b,δ7,es,eg,alt⟩:=compF_inv ef
   have okx:Ok K (G.and p) F' (σ++tl) H3 (δi++List.replicate k .no):=by rw [← htl];exact ok.ext tl
   refine tg_read okx rx es fun σ2 ok6 htake=>?_
   have t2:σ2.take σ.length = σ:=by rw [htake _ hge,List.take_left'];rfl
   have l2:σ2.length = σ.length+k:=by
    have a1:=okx.len
    have a2:=ok6.len
    have e1:=setTg_len es
    have e2:(σ++tl).length = σ.length+k:=by rw [List.length_append,htl]
    omega
   have dl:δi.length = σ.length:=ok.len
   have tail:∃ tl':L2.St,σ2 = σ++tl'∧tl'.length = k:=by
    refine ⟨σ2.drop σ.length,?_,by rw [List.length_drop];omega⟩
    conv=>lhs;rw [← List.take_append_drop σ.length σ2,t2]
   refine ⟨G.and p,F',δ6,b,δ7,ok6,eg,fun H7 F7 st7 sm7 ok7=>?_⟩
   have keepD:∀ {F8:Addr→Prop} {H8:Hp},Step (G.and p) F' H3 F8 H8→H8 p = some (.lst xs):=fun s8=>(s8.res p _ (.inr rfl) hF eD).2
   rcases alt with ⟨rfl,y,δ8,ee,rfl,rfl⟩ | ⟨rfl,rfl,rfl⟩
   · refine iteT ?_
     refine ⟨G.and p,F7,δ7,y,δ8,ok7,ee,fun u H8 F8 st8 sm8 ok8 r8=>?_⟩
     have s78:=st7.trans st8
     have eD8:=keepD s78
     have ry:=rel_of n r8
     have rl8:RelL K H8 F8 yi xs:=RelL.step ok.fd s78 yi xs rl
     have hF8:F8 p:=ok8.rf p (.inr rfl)
     have pk:Step g0 F8 H8 F8 (upd H8 p (.lst (xs++[u]))):=⟨fun b o _ e nf=>by rw [upd_ne (fun z:b = p=>nf (by rw [z];exact hF8))];exact e,fun b z=>.inl z,fun _ _ r _ _=>r.elim,fun b ps e=>⟨ps,by rw [upd_ne (fun w:b = p=>by rw [w,eD8] at e;cases e)];exact e⟩⟩
     subst ez
     have hyl:yi.length < sizeLine:=by
      have:=congrArg List.length ey
      rw [List.length_append] at this
      simp only [List.length_cons] at this
      omega
     refine ⟨xs,eD8,by rw [rl8.length];exact hyl,ds.length - (i+1),by omega,F8,δ8.take δi.length,zs',xs++[u],yi++[y],rfl,hlt,tail,?_,el',by rw [List.append_assoc];exact ey,upd_same,?_,?_,fun z=>?_⟩
     · have:=(ok8.poke hg eD8 (xs++[u])).cut δi.length
       rw [dl,t2] at this
       rw [dl]
       exact this
     · exact RelL.step ok8.fd pk _ _ (rl8.append (RelL.one ry))
     · have s1:=st.trans (s78.sub hFs)
       refine ⟨fun b o t e nf=>?_,s1.grow,fun b o r f e=>?_,fun b ps e=>?_⟩
       · rw [upd_ne (fun w:b = p=>by rw [w,hp] at e;cases e)]
         exact s1.keep b o t e nf
       · obtain ⟨a1,a2⟩:=s1.res b o r f e
         refine ⟨a1,?_⟩
         rw [upd_ne (fun w:b = p=>by rw [w,hp] at e;cases e)]
         exact a2
       · rw [upd_ne (fun w:b = p=>by rw [w,hp] at e;cases e)]
         exact s1.tb b ps e
     · have z':=z
       rw [Bool.and_eq_true] at z'
       have s1:=((sm z).trans (sm7 z'.1)).trans (sm8 z'.2)
       refine ⟨fun b o t e=>?_,fun b ps e=>?_⟩
       · rw [upd_ne (fun w:b = p=>by rw [w,hp] at e;cases e)]
         exact s1.nt b o t e
       · rw [upd_ne (fun w:b = p=>by rw [w,hp] at e;cases e)]
         exact s1.tb b ps e
   · refine iteF ?_
     subst ez
     refine ⟨ds.length - (i+1),by omega,F7,δ7.take δi.length,_,xs,yi,rfl,hlt,tail,?_,el',ey,keepD st7,RelL.step ok.fd st7 yi xs rl,st.trans (st7.sub hFs),fun z=>?_⟩
     · have:=ok7.cut δi.length
       rw [dl,t2] at this
       rw [dl]
       exact this
     · have z':=z
       rw [Bool.and_eq_true] at z'
       exact (sm z).trans (sm7 z'.1)
 · have hi':i = ds.length:=by omega
   subst hi'
   rw [List.drop_length] at el
   cases el
   rw [List.append_nil] at ey
   subst ey
   exact .inl ⟨(wk F' Hc st ok.fd ds.length).2 rfl,q _ Hc F' xs ok eD rl st sm⟩
end
end PP
end
section
namespace PP
open PySem
section
variable (cx:Cl)
def wE (e:E) (δ:Loc) (Q:D→Loc→Prop):Prop:=∃ d δ',evE cx e δ = some (d,δ')∧Q d δ'
def wT (e:E) (δ:Loc) (Q:Bool→Loc→Prop):Prop:=∃ d δ',evT cx e δ = some (d,δ')∧Q d δ'
def wEs (e:Es) (δ:Loc) (Q:List D→Loc→Prop):Prop:=∃ d δ',evEs cx e δ = some (d,δ')∧Q d δ'
def wO (e:Eo) (δ:Loc) (Q:Option Int→Loc→Prop):Prop:=∃ d δ',evO cx e δ = some (d,δ')∧Q d δ'
def wG (e:Eo) (δ:Loc) (Q:Bool→Loc→Prop):Prop:=∃ d δ',evG cx e δ = some (d,δ')∧Q d δ'
def wI (e:It) (δ:Loc) (Q:List D→Loc→Prop):Prop:=∃ d δ',evI cx e δ = some (d,δ')∧Q d δ'
def wS (s:S) (δ:Loc) (Q:Out→Prop):Prop:=∃ o,evS cx s δ = some o∧Q o
def wSs (s:Ss) (δ:Loc) (Q:Out→Prop):Prop:=∃ o,evSs cx s δ = some o∧Q o
def wTg (δ:Loc) (tg:Tg) (d:D) (Q:Loc→Prop):Prop:=∃ δ',setTg δ tg d = some δ'∧Q δ'
def wOp (op:Op) (x y:D) (Q:D→Prop):Prop:=∃ z,opD op x y = some z∧Q z
def wCmp (op:Cop) (x y:D) (Q:Bool→Prop):Prop:=∃ z,cmpD op x y = some z∧Q z
def wBlt (f:Blt) (ds:List D) (Q:D→Prop):Prop:=∃ z,bltD f ds = some z∧Q z
def wCall (f:Nat) (ds:List D) (Q:D→Prop):Prop:=∃ z,cx.call f ds = some z∧Q z
def wGet (δ:Loc) (i:Nat) (Q:D→Prop):Prop:=∃ z,PP.get δ i = some z∧Q z
def wIx (x y:D) (Q:D→Prop):Prop:=∃ z,ixD x y = some z∧Q z
def wSl (x:D) (lo hi:Option Int) (Q:D→Prop):Prop:=∃ z,slD x lo hi = some z∧Q z
def wTv (x:D) (Q:Bool→Prop):Prop:=∃ z,tv x = some z∧Q z
def wItems (x:D) (Q:List D→Prop):Prop:=∃ z,items x = some z∧Q z
def turnF (k:Nat) (tg:Tg) (ifs:Eo) (elt:E):D→Loc→Option (Option D × Loc):=fun x δ0=>do
 let δ2 ← setTg (δ0++List.replicate k .no) tg x
 let (b,δ3) ← evG cx ifs δ2
 if b then do
  let (y,δ4) ← evE cx elt δ3
  return (some y,δ4.take δ0.length)
 else return (none,δ3.take δ0.length)
def wComp (k:Nat) (tg:Tg) (ifs:Eo) (elt:E) (ds:List D) (δ:Loc) (Q:List D→Loc→Prop):Prop:=∃ ys δ',compL (turnF cx k tg ifs elt) ds δ = some (ys,δ')∧Q ys δ'
def forF (tg:Tg) (body:Ss):D→Loc→Option Out:=fun x δ0=>match setTg δ0 tg x with
 | some δ2=>evSs cx body δ2
 | none=>none
def wFor (tg:Tg) (body:Ss) (ds:List D) (δ:Loc) (Q:Out→Prop):Prop:=∃ o,forL (forF cx tg body) ds δ = some o∧Q o
def wWhile (c:E) (body:Ss) (n:Nat) (δ:Loc) (Q:Out→Prop):Prop:=∃ o,whileL (fun δ0=>evT cx c δ0) (fun δ0=>evSs cx body δ0) n δ = some o∧Q o
end
section
variable {α β γ:Type} {P P':α→Loc→Prop} {R R':α→Prop} {Q:β→Loc→Prop} {S:γ→Prop} {o:Option (α × Loc)} {u:Option α} {f:α × Loc→Option (β × Loc)} {g:α→Option (β × Loc)} {f':α × Loc→Option γ} {g':α→Option γ} {d:β} {r:γ} {δ:Loc} {c:Prop} [Decidable c]
theorem yb:(∃ r,o.bind f' = some r∧S r)↔∃ x δ1,o = some (x,δ1)∧∃ r,f' (x,δ1) = some r∧S r:=by
 cases o with
 | none=>exact ⟨fun ⟨_,e,_⟩=>(by cases e),fun ⟨_,_,e,_⟩=>(by cases e)⟩
 | some p=>exact ⟨fun h=>⟨p.1,p.2,rfl,h⟩,fun ⟨_,_,e,h⟩=>by cases e;exact h⟩
theorem ys:(∃ r,u.bind g' = some r∧S r)↔∃ x,u = some x∧∃ r,g' x = some r∧S r:=by
 cases u with
 | none=>exact ⟨fun ⟨_,e,_⟩=>(by cases e),fun ⟨_,e,_⟩=>(by cases e)⟩
 | some p=>exact ⟨fun h=>⟨p,rfl,h⟩,fun ⟨_,e,h⟩=>by cases e;exact h⟩
theorem yr:(∃ r',some r = some r'∧S r')↔S r:=⟨fun ⟨_,e,h⟩=>(by cases e;exact h),fun h=>⟨_,rfl,h⟩⟩
theorem yi:(∃ r',(if c then some r else none) = some r'∧S r')↔c∧S r:=by
 by_cases h:c
 · rw [if_pos h];exact yr.trans ⟨fun q=>⟨h,q⟩,fun q=>q.2⟩
 · rw [if_neg h];exact ⟨fun ⟨_,e,_⟩=>(by cases e),fun q=>absurd q.1 h⟩
theorem yn {A:Prop} (h:¬ A):(∃ r',(none:Option γ) = some r'∧S r')↔A:=⟨fun ⟨_,e,_⟩=>(by cases e),fun q=>absurd q h⟩
theorem xq {o:Option (β × Loc)}:(∃ d δ',o = some (d,δ')∧Q d δ')↔∃ r,o = some r∧Q r.1 r.2:=⟨fun ⟨_,_,e,q⟩=>⟨_,e,q⟩,fun ⟨r,e,q⟩=>⟨r.1,r.2,e,q⟩⟩
theorem xb:(∃ d δ',o.bind f = some (d,δ')∧Q d δ')↔∃ x δ1,o = some (x,δ1)∧∃ d δ',f (x,δ1) = some (d,δ')∧Q d δ':=xq.trans (yb.trans ⟨fun ⟨x,y,e,h⟩=>⟨x,y,e,xq.mpr h⟩,fun ⟨x,y,e,h⟩=>⟨x,y,e,xq.mp h⟩⟩)
theorem x1:(∃ d δ',u.bind g = some (d,δ')∧Q d δ')↔∃ x,u = some x∧∃ d δ',g x = some (d,δ')∧Q d δ':=xq.trans (ys.trans ⟨fun ⟨x,e,h⟩=>⟨x,e,xq.mpr h⟩,fun ⟨x,e,h⟩=>⟨x,e,xq.mp h⟩⟩)
theorem xr:(∃ d' δ',some (d,δ) = some (d',δ')∧Q d' δ')↔Q d δ:=xq.trans yr
theorem xi:(∃ d' δ',(if c then some (d,δ) else none) = some (d',δ')∧Q d' δ')↔c∧Q d δ:=xq.trans yi
theorem xn {A:Prop} (h:¬ A):(∃ d' δ',(none:Option (β × Loc)) = some (d',δ')∧Q d' δ')↔A:=xq.trans (yn h)
theorem xc (h:∀ x δ,P x δ↔P' x δ):(∃ x δ1,o = some (x,δ1)∧P x δ1)↔∃ x δ1,o = some (x,δ1)∧P' x δ1:=⟨fun ⟨x,δ,e,p⟩=>⟨x,δ,e,(h x δ).mp p⟩,fun ⟨x,δ,e,p⟩=>⟨x,δ,e,(h x δ).mpr p⟩⟩
theorem xd (h:∀ x,R x↔R' x):(∃ x,u = some x∧R x)↔∃ x,u = some x∧R' x:=⟨fun ⟨x,e,p⟩=>⟨x,e,(h x).mp p⟩,fun ⟨x,e,p⟩=>⟨x,e,(h x).mpr p⟩⟩
end
theorem exBl {b:Bool} {P:Bool→Prop}:(∃ k,D.bl b = D.bl k∧P k)↔P b:=⟨fun ⟨_,e,q⟩=>by cases e;exact q,fun q=>⟨_,rfl,q⟩⟩
theorem exInt {b:Int} {P:Int→Prop}:(∃ k,D.int b = D.int k∧P k)↔P b:=⟨fun ⟨_,e,q⟩=>by cases e;exact q,fun q=>⟨_,rfl,q⟩⟩
theorem exLst {b:List D} {P:List D→Prop}:(∃ k,D.lst b = D.lst k∧P k)↔P b:=⟨fun ⟨_,e,q⟩=>by cases e;exact q,fun q=>⟨_,rfl,q⟩⟩
section
variable {cx:Cl} {δ:Loc}
theorem wE_var {i:Nat} {Q:D→Loc→Prop}:wE cx (.var i) δ Q↔∃ d,getV δ i = some d∧Q d (demote δ i):=x1.trans (xd fun _=>xr)
theorem wE_pk {i:Nat} {Q:D→Loc→Prop}:wE cx (.pk i) δ Q↔wGet δ i fun d=>Q d δ:=x1.trans (xd fun _=>xr)
theorem wE_glob {i:Nat} {Q:D→Loc→Prop}:wE cx (.glob i) δ Q↔∃ d,cx.gl[i]? = some d∧Q d δ:=x1.trans (xd fun _=>xr)
theorem wE_int {i:Int} {Q:D→Loc→Prop}:wE cx (.int i) δ Q↔Q (.int i) δ:=xr
theorem wE_bl {i:Bool} {Q:D→Loc→Prop}:wE cx (.bl i) δ Q↔Q (.bl i) δ:=xr
theorem wE_non {Q:D→Loc→Prop}:wE cx .non δ Q↔Q .non δ:=xr
theorem wE_str {i:Str} {Q:D→Loc→Prop}:wE cx (.str i) δ Q↔Q (.str i) δ:=xr
theorem wE_bin {op:Op} {a b:E} {Q:D→Loc→Prop}:wE cx (.bin op a b) δ Q↔wE cx a δ fun x δ1=>wE cx b δ1 fun y δ2=>wOp op x y fun z=>Q z δ2:=xb.trans (xc fun _ _=>xb.trans (xc fun _ _=>x1.trans (xd fun _=>xr)))
theorem wE_cmp {op:Cop} {a b:E} {Q:D→Loc→Prop}:wE cx (.cmp op a b) δ Q↔wE cx a δ fun x δ1=>wE cx b δ1 fun y δ2=>wCmp op x y fun z=>Q (.bl z) δ2:=xb.trans (xc fun _ _=>xb.trans (xc fun _ _=>x1.trans (xd fun _=>xr)))
theorem wT_cmp {op:Cop} {a b:E} {Q:Bool→Loc→Prop}:wT cx (.cmp op a b) δ Q↔wE cx a δ fun x δ1=>wE cx b δ1 fun y δ2=>wCmp op x y fun z=>Q z δ2:=xb.trans (xc fun _ _=>xb.trans (xc fun _ _=>x1.trans (xd fun _=>xr)))
theorem wE_and {a b:E} {Q:D→Loc→Prop}:wE cx (.and a b) δ Q↔wE cx a δ fun x δ1=>∃ k,x = .bl k∧if k = true then wE cx b δ1 Q else Q (.bl false) δ1:=xb.trans (xc fun x _=>by
 cases x with
 | bl k=>refine Iff.trans ?_ exBl.symm;cases k;exact xr;exact Iff.rfl
 | _=>exact xn fun ⟨_,e,_⟩=>by cases e)
theorem wE_or {a b:E} {Q:D→Loc→Prop}:wE cx (.or a b) δ Q↔wE cx a δ fun x δ1=>∃ k,x = .bl k∧if k = true then Q (.bl true) δ1 else wE cx b δ1 Q:=xb.trans (xc fun x _=>by
 cases x with
 | bl k=>refine Iff.trans ?_ exBl.symm;cases k;exact Iff.rfl;exact xr
 | _=>exact xn fun ⟨_,e,_⟩=>by cases e)
theorem wE_not {a:E} {Q:D→Loc→Prop}:wE cx (.not a) δ Q↔wE cx a δ fun x δ1=>∃ k,x = .bl k∧Q (.bl (!k)) δ1:=xb.trans (xc fun x _=>by
 cases x with
 | bl k=>refine Iff.trans ?_ exBl.symm;exact xr
 | _=>exact xn fun ⟨_,e,_⟩=>by cases e)
theorem wE_neg {a:E} {Q:D→Loc→Prop}:wE cx (.neg a) δ Q↔wE cx a δ fun x δ1=>∃ i,x = .int i∧Q (.int (-i)) δ1:=xb.trans (xc fun x _=>by
 cases x with
 | int k=>refine Iff.trans ?_ exInt.symm;exact xr
 | _=>exact xn fun ⟨_,e,_⟩=>by cases e)
theorem wT_and {a b:E} {Q:Bool→Loc→Prop}:wT cx (.and a b) δ Q↔wT cx a δ fun k δ1=>if k = true then wT cx b δ1 Q else Q false δ1:=xb.trans (xc fun k _=>by cases k;exact xr;exact Iff.rfl)
theorem wT_or {a b:E} {Q:Bool→Loc→Prop}:wT cx (.or a b) δ Q↔wT cx a δ fun k δ1=>if k = true then Q true δ1 else wT cx b δ1 Q:=xb.trans (xc fun k _=>by cases k;exact Iff.rfl;exact xr)
theorem wT_not {a:E} {Q:Bool→Loc→Prop}:wT cx (.not a) δ Q↔wT cx a δ fun k δ1=>Q (!k) δ1:=xb.trans (xc fun _ _=>xr)
theorem wT_var {i:Nat} {Q:Bool→Loc→Prop}:wT cx (.var i) δ Q↔wGet δ i fun d=>wTv d fun b=>Q b δ:=x1.trans (xd fun _=>x1.trans (xd fun _=>xr))
theorem wT_pk {i:Nat} {Q:Bool→Loc→Prop}:wT cx (.pk i) δ Q↔wGet δ i fun d=>wTv d fun b=>Q b δ:=x1.trans (xd fun _=>x1.trans (xd fun _=>xr))
theorem wT_call {f:Nat} {es:Es} {Q:Bool→Loc→Prop}:wT cx (.call f es) δ Q↔wEs cx es δ fun ds δ1=>wCall cx f ds fun d=>wTv d fun b=>Q b δ1:=xb.trans (xc fun _ _=>x1.trans (xd fun _=>x1.trans (xd fun _=>xr)))
theorem wT_blt {f:Blt} {es:Es} {Q:Bool→Loc→Prop}:wT cx (.blt f es) δ Q↔wEs cx es δ fun ds δ1=>wBlt f ds fun d=>wTv d fun b=>Q b δ1:=xb.trans (xc fun _ _=>x1.trans (xd fun _=>x1.trans (xd fun _=>xr)))
theorem wE_ite {c a b:E} {Q:D→Loc→Prop}:wE cx (.ite c a b) δ Q↔wT cx c δ fun k δ1=>if k = true then wE cx a δ1 Q else wE cx b δ1 Q:=xb.trans (xc fun k _=>by cases k<;>exact Iff.rfl)
theorem wE_tup {es:Es} {Q:D→Loc→Prop}:wE cx (.tup es) δ Q↔wEs cx es δ fun ds δ1=>ds.length≤sizeLine∧Q (.tup ds) δ1:=xb.trans (xc fun _ _=>xi)
theorem wE_lst {es:Es} {Q:D→Loc→Prop}:wE cx (.lst es) δ Q↔wEs cx es δ fun ds δ1=>ds.length≤sizeLine∧Q (.lst ds) δ1:=xb.trans (xc fun _ _=>xi)
theorem wE_ix {a b:E} {Q:D→Loc→Prop}:wE cx (.ix a b) δ Q↔wE cx a δ fun x δ1=>wE cx b δ1 fun y δ2=>wIx x y fun z=>Q z δ2:=xb.trans (xc fun _ _=>xb.trans (xc fun _ _=>x1.trans (xd fun _=>xr)))
theorem wE_sl {a:E} {lo hi:Eo} {Q:D→Loc→Prop}:wE cx (.sl a lo hi) δ Q↔wE cx a δ fun x δ1=>wO cx lo δ1 fun l δ2=>wO cx hi δ2 fun h δ3=>wSl x l h fun z=>Q z δ3:=xb.trans (xc fun _ _=>xb.trans (xc fun _ _=>xb.trans (xc fun _ _=>x1.trans (xd fun _=>xr))))
theorem wE_call {f:Nat} {es:Es} {Q:D→Loc→Prop}:wE cx (.call f es) δ Q↔wEs cx es δ fun ds δ1=>wCall cx f ds fun z=>Q z δ1:=xb.trans (xc fun _ _=>x1.trans (xd fun _=>xr))
theorem wE_blt {f:Blt} {es:Es} {Q:D→Loc→Prop}:wE cx (.blt f es) δ Q↔wEs cx es δ fun ds δ1=>wBlt f ds fun z=>Q z δ1:=xb.trans (xc fun _ _=>x1.trans (xd fun _=>xr))
theorem wE_pop {i:Nat} {Q:D→Loc→Prop}:wE cx (.pop i) δ Q↔∃ ds d,δ[i]? = some (.own (ds++[d]))∧Q d (δ.set i (.own ds)):=by
 unfold wE
 simp only [evE]
 constructor
 · rintro ⟨d,δ',e,q⟩
   split at e
   · rename_i ds h
     split at e
     · rename_i d0 hl
       cases e
       refine ⟨ds.dropLast,d,?_,q⟩
       rw [h]
       obtain ⟨z,rfl⟩:=List.getLast?_eq_some_iff.mp hl
       simp
     · cases e
   · cases e
 · rintro ⟨ds,d,h,q⟩
   refine ⟨d,_,?_,q⟩
   rw [h]
   simp
theorem wEs_nil {Q:List D→Loc→Prop}:wEs cx .nil δ Q↔Q [] δ:=xr
theorem wEs_cons {e:E} {es:Es} {Q:List D→Loc→Prop}:wEs cx (.cons e es) δ Q↔wE cx e δ fun x δ1=>wEs cx es δ1 fun xs δ2=>Q (x::xs) δ2:=xb.trans (xc fun _ _=>xb.trans (xc fun _ _=>xr))
theorem wO_no {Q:Option Int→Loc→Prop}:wO cx .no δ Q↔Q none δ:=xr
theorem wO_yes {e:E} {Q:Option Int→Loc→Prop}:wO cx (.yes e) δ Q↔wE cx e δ fun x δ1=>∃ i,x = .int i∧Q (some i) δ1:=xb.trans (xc fun x _=>by
 cases x with
 | int k=>refine Iff.trans ?_ exInt.symm;exact xr
 | _=>exact xn fun ⟨_,e,_⟩=>by cases e)
theorem wG_no {Q:Bool→Loc→Prop}:wG cx .no δ Q↔Q true δ:=xr
theorem wG_yes {e:E} {Q:Bool→Loc→Prop}:wG cx (.yes e) δ Q↔wT cx e δ Q:=Iff.rfl
theorem wI_rng {e:E} {Q:List D→Loc→Prop}:wI cx (.rng e) δ Q↔wE cx e δ fun x δ1=>∃ j,x = .int j∧(-(2 ^ 62)≤j∧j < 2 ^ 62)∧Q (rngD 0 j.toNat) δ1:=xb.trans (xc fun x _=>by
 cases x with
 | int k=>refine Iff.trans ?_ exInt.symm;exact xi
 | _=>exact xn fun ⟨_,e,_⟩=>by cases e)
theorem wI_rng2 {a b:E} {Q:List D→Loc→Prop}:wI cx (.rng2 a b) δ Q↔wE cx a δ fun x δ1=>wE cx b δ1 fun y δ2=>∃ i j,x = .int i∧y = .int j∧(-(2 ^ 62)≤i∧i < 2 ^ 62∧-(2 ^ 62)≤j∧j < 2 ^ 62)∧Q (rngD i (j - i).toNat) δ2:=by
 unfold wI wE
 simp only [evI,Option.bind_eq_bind,Option.bind_eq_some_iff,Prod.exists]
 constructor
 · rintro ⟨d,δ',⟨x,δ1,h1,e⟩,q⟩
   refine ⟨x,δ1,h1,?_⟩
   split at e
   · rename_i h
     cases h
     simp only [Option.bind_eq_some_iff,Prod.exists] at e
     obtain ⟨y,δ2,h2,e⟩:=e
     refine ⟨y,δ2,h2,?_⟩
     split at e
     · rename_i h
       cases h
       split at e
       · cases e;exact ⟨_,_,rfl,rfl,‹_›,q⟩
       · cases e
     · cases e
   · cases e
 · rintro ⟨x,δ1,h1,y,δ2,h2,i,j,rfl,rfl,h,q⟩
   refine ⟨_,_,⟨_,_,h1,?_⟩,q⟩
   simp only [Option.bind_eq_some_iff,Prod.exists]
   exact ⟨_,_,h2,by dsimp only;rw [if_pos h]⟩
theorem wI_sq {e:E} {Q:List D→Loc→Prop}:wI cx (.sq e) δ Q↔wE cx e δ fun x δ1=>wItems x fun ds=>Q ds δ1:=xb.trans (xc fun _ _=>x1.trans (xd fun _=>xr))
theorem wE_comp {k:Nat} {tg:Tg} {src:It} {ifs:Eo} {elt:E} {Q:D→Loc→Prop}:wE cx (.comp k tg src ifs elt) δ Q↔wI cx src δ fun ds δ1=>wComp cx k tg ifs elt ds δ1 fun ys δ2=>ys.length≤sizeLine∧Q (.lst ys) δ2:=xb.trans (xc fun _ _=>xb.trans (xc fun _ _=>xi))
theorem wComp_nil {k:Nat} {tg:Tg} {ifs:Eo} {elt:E} {Q:List D→Loc→Prop}:wComp cx k tg ifs elt [] δ Q↔Q [] δ:=xr
theorem wComp_cons {k:Nat} {tg:Tg} {ifs:Eo} {elt:E} {x:D} {xs:List D} {Q:List D→Loc→Prop}:wComp cx k tg ifs elt (x::xs) δ Q↔wTg (δ++List.replicate k .no) tg x fun δ2=>wG cx ifs δ2 fun b δ3 =>
 if b = true then wE cx elt δ3 fun y δ4=>wComp cx k tg ifs elt xs (δ4.take δ.length) fun ys δ5=>Q (y::ys) δ5 else wComp cx k tg ifs elt xs (δ3.take δ.length) Q:=xb.trans (x1.trans (xd fun _=>xb.trans (xc fun b _=>by cases b;exact xr.trans (xb.trans (xc fun _ _=>xr));exact xb.trans (xc fun _ _=>xr.trans (xb.trans (xc fun _ _=>xr))))))
end
end PP
end
section
namespace PP
open PySem
section
variable (cx:Cl)
def thenS (ss:Ss) (Q:Out→Prop):Out→Prop
 | .nx δ=>wSs cx ss δ Q
 | .rt d δ=>Q (.rt d δ)
 | .bk δ=>Q (.bk δ)
 | .ct δ=>Q (.ct δ)
 | .ro d δ=>Q (.ro d δ)
end
def loopS (next:Loc→Prop) (Q:Out→Prop):Out→Prop
 | .nx δ=>next δ
 | .ct δ=>next δ
 | .bk δ=>Q (.nx δ)
 | .rt d δ=>Q (.rt d δ)
 | .ro d δ=>Q (.ro d δ)
def wSet (δ:Loc) (i:Nat) (s:Sl) (Q:Loc→Prop):Prop:=i < δ.length∧Q (δ.set i s)
def wZip (pre δ:Loc) (i:Nat) (s:Sl) (Q:Loc→Prop):Prop:=i < δ.length∧Q (pre.reverse++δ.set i s)
def wPut (δ:Loc) (i:Nat) (s:Sl) (Q:Loc→Prop):Prop:=Q (δ.set i s)
def wPutZ (pre δ:Loc) (i:Nat) (s:Sl) (Q:Loc→Prop):Prop:=Q (pre.reverse++δ.set i s)
def wRev (pre δ:Loc) (Q:Loc→Prop):Prop:=Q (pre.reverse++δ)
def wVar (δ0:Loc) (j:Nat) (δ:Loc) (i:Nat) (Q:D→Loc→Prop):Prop:=match δ[i]? with
 | some (.val d)=>Q d δ0
 | some (.own ds)=>Q (.lst ds) (δ0.set j (.val (.lst ds)))
 | some (.odc ks ds)=>Q (.dct ks ds) (δ0.set j (.val (.dct ks ds)))
 | _=>False
def wOwn (δ:Loc) (i:Nat) (Q:List D→Prop):Prop:=match δ[i]? with
 | some (.own ds)=>Q ds
 | _=>False
def wOdc (δ:Loc) (i:Nat) (Q:List Str→List D→Prop):Prop:=match δ[i]? with
 | some (.odc ks ds)=>Q ks ds
 | _=>False
def wVal (δ:Loc) (i:Nat) (Q:D→Prop):Prop:=match δ[i]? with
 | some (.val d)=>Q d
 | _=>False
section
variable {cx:Cl} {δ pre:Loc}
theorem thenS_nx {ss:Ss} {Q:Out→Prop}:thenS cx ss Q (.nx δ)↔wSs cx ss δ Q:=Iff.rfl
theorem thenS_rt {ss:Ss} {Q:Out→Prop} {d:D}:thenS cx ss Q (.rt d δ)↔Q (.rt d δ):=Iff.rfl
theorem thenS_bk {ss:Ss} {Q:Out→Prop}:thenS cx ss Q (.bk δ)↔Q (.bk δ):=Iff.rfl
theorem thenS_ct {ss:Ss} {Q:Out→Prop}:thenS cx ss Q (.ct δ)↔Q (.ct δ):=Iff.rfl
theorem loopS_nx {n:Loc→Prop} {Q:Out→Prop}:loopS n Q (.nx δ)↔n δ:=Iff.rfl
theorem loopS_ct {n:Loc→Prop} {Q:Out→Prop}:loopS n Q (.ct δ)↔n δ:=Iff.rfl
theorem loopS_bk {n:Loc→Prop} {Q:Out→Prop}:loopS n Q (.bk δ)↔Q (.nx δ):=Iff.rfl
theorem loopS_rt {n:Loc→Prop} {Q:Out→Prop} {d:D}:loopS n Q (.rt d δ)↔Q (.rt d δ):=Iff.rfl
theorem wSet_zip {i:Nat} {s:Sl} {Q:Loc→Prop}:wSet δ i s Q↔wZip [] δ i s Q:=Iff.rfl
theorem wZip_succ {i:Nat} {s t:Sl} {Q:Loc→Prop}:wZip pre (t::δ) (i+1) s Q↔wZip (t::pre) δ i s Q:=by simp [wZip]
theorem wZip_zero {s t:Sl} {Q:Loc→Prop}:wZip pre (t::δ) 0 s Q↔wRev pre (s::δ) Q:=by simp [wZip,wRev]
theorem wPut_zip {i:Nat} {s:Sl} {Q:Loc→Prop}:wPut δ i s Q↔wPutZ [] δ i s Q:=Iff.rfl
theorem wPutZ_succ {i:Nat} {s t:Sl} {Q:Loc→Prop}:wPutZ pre (t::δ) (i+1) s Q↔wPutZ (t::pre) δ i s Q:=by simp [wPutZ]
theorem wPutZ_zero {s t:Sl} {Q:Loc→Prop}:wPutZ pre (t::δ) 0 s Q↔wRev pre (s::δ) Q:=by simp [wPutZ,wRev]
theorem wRev_cons {t:Sl} {Q:Loc→Prop}:wRev (t::pre) δ Q↔wRev pre (t::δ) Q:=by simp [wRev]
theorem wRev_nil {Q:Loc→Prop}:wRev [] δ Q↔Q δ:=Iff.rfl
theorem wVar_succ {δ0:Loc} {i j:Nat} {t:Sl} {Q:D→Loc→Prop}:wVar δ0 j (t::δ) (i+1) Q↔wVar δ0 j δ i Q:=Iff.rfl
theorem wVar_val {δ0:Loc} {j:Nat} {d:D} {Q:D→Loc→Prop}:wVar δ0 j (.val d::δ) 0 Q↔Q d δ0:=Iff.rfl
theorem wVar_own {δ0:Loc} {j:Nat} {ds:List D} {Q:D→Loc→Prop}:wVar δ0 j (.own ds::δ) 0 Q↔wPut δ0 j (.val (.lst ds)) fun δ1=>Q (.lst ds) δ1:=Iff.rfl
theorem wVar_odc {δ0:Loc} {j:Nat} {ks:List Str} {ds:List D} {Q:D→Loc→Prop}:wVar δ0 j (.odc ks ds::δ) 0 Q↔wPut δ0 j (.val (.dct ks ds)) fun δ1=>Q (.dct ks ds) δ1:=Iff.rfl
theorem wOdc_succ {i:Nat} {t:Sl} {Q:List Str→List D→Prop}:wOdc (t::δ) (i+1) Q↔wOdc δ i Q:=Iff.rfl
theorem wOdc_odc {ks:List Str} {ds:List D} {Q:List Str→List D→Prop}:wOdc (.odc ks ds::δ) 0 Q↔Q ks ds:=Iff.rfl
theorem wGet_succ {i:Nat} {t:Sl} {Q:D→Prop}:wGet (t::δ) (i+1) Q↔wGet δ i Q:=Iff.rfl
theorem wGet_val {d:D} {Q:D→Prop}:wGet (.val d::δ) 0 Q↔Q d:=yr
theorem wGet_own {ds:List D} {Q:D→Prop}:wGet (.own ds::δ) 0 Q↔Q (.lst ds):=yr
theorem wOwn_succ {i:Nat} {t:Sl} {Q:List D→Prop}:wOwn (t::δ) (i+1) Q↔wOwn δ i Q:=Iff.rfl
theorem wOwn_own {ds:List D} {Q:List D→Prop}:wOwn (.own ds::δ) 0 Q↔Q ds:=Iff.rfl
theorem wVal_succ {i:Nat} {t:Sl} {Q:D→Prop}:wVal (t::δ) (i+1) Q↔wVal δ i Q:=Iff.rfl
theorem wVal_val {d:D} {Q:D→Prop}:wVal (.val d::δ) 0 Q↔Q d:=Iff.rfl
theorem wE_var' {i:Nat} {Q:D→Loc→Prop}:wE cx (.var i) δ Q↔wVar δ i δ i Q:=by
 rw [wE_var]
 unfold getV wVar PP.get demote
 cases h:δ[i]? with
 | none=>simp
 | some s=>cases s<;>simp
theorem wE_pop' {i:Nat} {Q:D→Loc→Prop}:wE cx (.pop i) δ Q↔wOwn δ i fun es=>∃ ds d,es = ds++[d]∧wSet δ i (.own ds) fun δ'=>Q d δ':=by
 rw [wE_pop]
 unfold wOwn wSet
 constructor
 · rintro ⟨ds,d,h,q⟩
   rw [h]
   exact ⟨ds,d,rfl,(List.getElem?_eq_some_iff.mp h).1,q⟩
 · intro h
   split at h
   · rename_i es he
     obtain ⟨ds,d,rfl,_,q⟩:=h
     exact ⟨ds,d,he,q⟩
   · exact h.elim
theorem wSs_nil {Q:Out→Prop}:wSs cx .nil δ Q↔Q (.nx δ):=yr
theorem wSs_cons {s:S} {ss:Ss} {Q:Out→Prop}:wSs cx (.cons s ss) δ Q↔wS cx s δ (thenS cx ss Q):=by
 unfold wSs wS
 simp only [evSs]
 cases evS cx s δ with
 | none=>exact yn (fun ⟨_,e,_⟩=>by cases e)
 | some o =>
   refine Iff.trans ?_ yr.symm
   cases o with
   | nx δ1=>exact Iff.rfl
   | _=>exact yr
theorem wS_asg {tg:Tg} {e:E} {Q:Out→Prop}:wS cx (.asg tg e) δ Q↔wE cx e δ fun d δ1=>wTg δ1 tg d fun δ2=>Q (.nx δ2):=yb.trans (xc fun _ _=>ys.trans (xd fun _=>yr))
theorem wTg_nm {i:Nat} {d:D} {Q:Loc→Prop}:wTg δ (.nm i) d Q↔wSet δ i (.val d) Q:=yi
theorem wTg_tp {is:List Nat} {ds:List D} {Q:Loc→Prop}:wTg δ (.tp is) (.tup ds) Q↔(is.length = ds.length∧is.all (· < δ.length) = true)∧Q ((is.zip ds).foldl (fun δ p=>δ.set p.1 (.val p.2)) δ):=yi
theorem wS_new {i:Nat} {e:E} {Q:Out→Prop}:wS cx (.new i e) δ Q↔wE cx e δ fun d δ1=>∃ ds,d = .lst ds∧wSet δ1 i (.own ds) fun δ2=>Q (.nx δ2):=yb.trans (xc fun x _=>by
 cases x with
 | lst k=>refine Iff.trans ?_ exLst.symm;exact yi
 | _=>exact yn fun ⟨_,e,_⟩=>by cases e)
theorem wS_cmp {own:Bool} {i:Nat} {e:E} {Q:Out→Prop}:wS cx (.cmp own i e) δ Q↔wE cx e δ fun d δ1=>∃ ds,d = .lst ds∧wSet δ1 i (bif own then .own ds else .val (.lst ds)) fun δ2=>Q (.nx δ2):=yb.trans (xc fun x _=>by
 cases x with
 | lst k=>refine Iff.trans ?_ exLst.symm;cases own<;>exact yi
 | _=>exact yn fun ⟨_,e,_⟩=>by cases e)
theorem wS_cmpT {i:Nat} {e:E} {Q:Out→Prop}:wS cx (.cmp true i e) δ Q↔wE cx e δ fun d δ1=>∃ ds,d = .lst ds∧wSet δ1 i (.own ds) fun δ2=>Q (.nx δ2):=wS_cmp
theorem wS_cmpF {i:Nat} {e:E} {Q:Out→Prop}:wS cx (.cmp false i e) δ Q↔wE cx e δ fun d δ1=>∃ ds,d = .lst ds∧wSet δ1 i (.val (.lst ds)) fun δ2=>Q (.nx δ2):=wS_cmp
theorem wS_ret {e:E} {Q:Out→Prop}:wS cx (.ret e) δ Q↔wE cx e δ fun d δ1=>Q (.rt d δ1):=yb.trans (xc fun _ _=>yr)
theorem wS_retN {Q:Out→Prop}:wS cx .retN δ Q↔Q (.rt .non δ):=yr
theorem wS_pass {Q:Out→Prop}:wS cx .pass δ Q↔Q (.nx δ):=yr
theorem wS_brk {Q:Out→Prop}:wS cx .brk δ Q↔Q (.bk δ):=yr
theorem wS_cont {Q:Out→Prop}:wS cx .cont δ Q↔Q (.ct δ):=yr
theorem wS_ifs {c:E} {a b:Ss} {Q:Out→Prop}:wS cx (.ifs c a b) δ Q↔wT cx c δ fun k δ1=>if k = true then wSs cx a δ1 Q else wSs cx b δ1 Q:=yb.trans (xc fun k _=>by cases k<;>exact Iff.rfl)
theorem wS_for {tg:Tg} {src:It} {body:Ss} {Q:Out→Prop}:wS cx (.for_ tg src body) δ Q↔wI cx src δ fun ds δ1=>wFor cx tg body ds δ1 Q:=yb.trans (xc fun _ _=>Iff.rfl)
theorem wS_while {c:E} {body:Ss} {Q:Out→Prop}:wS cx (.while_ c body) δ Q↔wWhile cx c body 1000 δ Q:=Iff.rfl
theorem wS_append {i:Nat} {e:E} {Q:Out→Prop}:wS cx (.append i e) δ Q↔wOwn δ i fun _=>wE cx e δ fun d δ1=>wOwn δ1 i fun ds=>ds.length < sizeLine∧wSet δ1 i (.own (ds++[d])) fun δ2=>Q (.nx δ2):=by
 unfold wS wOwn
 simp only [evS]
 cases δ[i]? with
 | none=>exact yn id
 | some s =>
   cases s with
   | own ds0 =>
     refine yb.trans (xc fun d δ1=>?_)
     dsimp only
     cases h1:δ1[i]? with
     | none=>exact yn id
     | some s =>
       cases s with
       | own ds=>exact yi.trans ⟨fun q=>⟨q.1,(List.getElem?_eq_some_iff.mp h1).1,q.2⟩,fun q=>⟨q.1,q.2.2⟩⟩
       | _=>exact yn id
   | _=>exact yn id
theorem wS_extend {i:Nat} {e:E} {Q:Out→Prop}:wS cx (.extend i e) δ Q↔wOwn δ i fun _=>wE cx e δ fun d δ1=>∃ ys,d = .lst ys∧wOwn δ1 i fun ds=>ds.length+ys.length≤sizeLine∧wSet δ1 i (.own (ds++ys)) fun δ2=>Q (.nx δ2):=by
 unfold wS wOwn
 simp only [evS]
 cases δ[i]? with
 | none=>exact yn id
 | some s =>
   cases s with
   | own ds0 =>
     refine yb.trans (xc fun d δ1=>?_)
     cases d with
     | lst ys =>
       refine Iff.trans ?_ exLst.symm
       dsimp only
       cases h1:δ1[i]? with
       | none=>exact yn id
       | some s =>
         cases s with
         | own ds=>exact yi.trans ⟨fun q=>⟨q.1,(List.getElem?_eq_some_iff.mp h1).1,q.2⟩,fun q=>⟨q.1,q.2.2⟩⟩
         | _=>exact yn id
     | _=>exact yn fun ⟨_,e,_⟩=>by cases e
   | _=>exact yn id
theorem wS_setix {i:Nat} {j e:E} {Q:Out→Prop}:wS cx (.setix i j e) δ Q↔wE cx e δ fun d δ1=>wOwn δ1 i fun _=>wE cx j δ1 fun y δ2=>wOwn δ2 i fun ds=>∃ k m,y = .int k∧L2.ixN ds.length k = some m∧wSet δ2 i (.own (ds.set m d)) fun δ3=>Q (.nx δ3):=yb.trans (xc fun d δ1=>by
 unfold wOwn
 dsimp only
 cases δ1[i]? with
 | none=>exact yn id
 | some s =>
   cases s with
   | own ds0 =>
     refine yb.trans (xc fun y δ2=>?_)
     cases y with
     | int k =>
       dsimp only
       cases h2:δ2[i]? with
       | none=>exact yn id
       | some s =>
         cases s with
         | own ds =>
           dsimp only
           cases h3:L2.ixN ds.length k with
           | none=>exact yn fun ⟨_,_,e1,e2,_⟩=>by cases e1;rw [h3] at e2;cases e2
           | some m=>exact yr.trans ⟨fun q=>⟨_,_,rfl,h3,(List.getElem?_eq_some_iff.mp h2).1,q⟩,fun ⟨_,_,e1,e2,_,q⟩=>by cases e1;rw [h3] at e2;cases e2;exact q⟩
         | _=>exact yn id
     | _ =>
       refine yn ?_
       split
       · exact fun ⟨_,_,e,_⟩=>by cases e
       · exact id
   | _=>exact yn id)
theorem wFor_nil {tg:Tg} {body:Ss} {Q:Out→Prop}:wFor cx tg body [] δ Q↔Q (.nx δ):=yr
theorem wFor_cons {tg:Tg} {body:Ss} {x:D} {xs:List D} {Q:Out→Prop}:wFor cx tg body (x::xs) δ Q↔wTg δ tg x fun δ2=>wSs cx body δ2 (loopS (fun δ3=>wFor cx tg body xs δ3 Q) Q):=by
 unfold wFor wTg wSs
 simp only [forL,forF]
 cases setTg δ tg x with
 | none=>exact yn (fun ⟨_,e,_⟩=>by cases e)
 | some δ2 =>
   refine Iff.trans ?_ yr.symm
   dsimp only
   cases evSs cx body δ2 with
   | none=>exact yn (fun ⟨_,e,_⟩=>by cases e)
   | some o =>
     refine Iff.trans ?_ yr.symm
     cases o with
     | nx δ1=>exact Iff.rfl
     | ct δ1=>exact Iff.rfl
     | _=>exact yr
theorem wWhile_succ {c:E} {body:Ss} {n:Nat} {Q:Out→Prop}:wWhile cx c body (n+1) δ Q↔wT cx c δ fun k δ1=>if k = true then wSs cx body δ1 (loopS (fun δ3=>wWhile cx c body n δ3 Q) Q) else Q (.nx δ1):=by
 unfold wWhile wT wSs
 simp only [whileL]
 cases evT cx c δ with
 | none=>exact yn (fun ⟨_,_,e,_⟩=>by cases e)
 | some p =>
   refine Iff.trans ?_ (xq.trans yr).symm
   obtain ⟨k,δ1⟩:=p
   cases k with
   | false=>exact yr
   | true =>
     dsimp only
     cases evSs cx body δ1 with
     | none=>exact yn (fun ⟨_,e,_⟩=>by cases e)
     | some o =>
       refine Iff.trans ?_ yr.symm
       cases o with
       | nx δ1=>exact Iff.rfl
       | ct δ1=>exact Iff.rfl
       | _=>exact yr
theorem wFor_inv {tg:Tg} {body:Ss} {Q:Out→Prop} (P:List D→Loc→Prop) (step:∀ x xs δ,P (x::xs) δ→wTg δ tg x fun δ2=>wSs cx body δ2 (loopS (P xs) Q)) (fin:∀ δ,P [] δ→Q (.nx δ)):∀ (ds:List D) (δ:Loc),P ds δ→wFor cx tg body ds δ Q
 | [],δ,h=>wFor_nil.mpr (fin δ h)
 | x::xs,δ,h=>by
   rw [wFor_cons]
   obtain ⟨δ2,e,o,e2,q⟩:=step x xs δ h
   refine ⟨δ2,e,o,e2,?_⟩
   cases o with
   | nx δ1=>exact wFor_inv P step fin xs δ1 q
   | ct δ1=>exact wFor_inv P step fin xs δ1 q
   | rt d δ1=>exact q
   | ro d δ1=>exact q
   | bk δ1=>exact q
end
theorem wOp_addI {a b:Int} {Q:D→Prop}:wOp .add (.int a) (.int b) Q↔Q (.int (a+b)):=yr
theorem wOp_subI {a b:Int} {Q:D→Prop}:wOp .sub (.int a) (.int b) Q↔Q (.int (a - b)):=yr
theorem wOp_mulI {a b:Int} {Q:D→Prop}:wOp .mul (.int a) (.int b) Q↔mulOk a b = true∧Q (.int (a * b)):=yi
theorem wOp_modI {a b:Int} {Q:D→Prop}:wOp .mod (.int a) (.int b) Q↔0 < b∧Q (.int (a % b)):=yi
theorem wOp_fdivI {a b:Int} {Q:D→Prop}:wOp .fdiv (.int a) (.int b) Q↔(0 < b∧b < 1000000000000000000000000000000000000000000000000000000000000)∧Q (.int (a / b)):=yi
theorem wOp_powI {a b:Int} {Q:D→Prop}:wOp .pow (.int a) (.int b) Q↔(0≤b∧b≤1000000∧a.natAbs < 2 ^ 64)∧Q (.int (a ^ b.toNat)):=yi
theorem wOp_addS {a b:Str} {Q:D→Prop}:wOp .add (.str a) (.str b) Q↔a.length+b.length≤sizeLine∧Q (.str (a++b)):=yi
theorem wOp_mulS {a:Str} {b:Int} {Q:D→Prop}:wOp .mul (.str a) (.int b) Q↔(0≤b∧b≤1000∧a.length≤1000)∧Q (.str (repS a b.toNat)):=yi
theorem wOp_addT {x:D} {a b:List D} {Q:D→Prop}:wOp .add (.tup (x::a)) (.tup b) Q↔(x::a).length+b.length≤sizeLine∧Q (.tup (x::a++b)):=yi
theorem wOp_addT0 {b:List D} {Q:D→Prop}:wOp .add (.tup []) (.tup b) Q↔Q (.tup b):=yr
theorem wOp_addL {a b:List D} {Q:D→Prop}:wOp .add (.lst a) (.lst b) Q↔a.length+b.length≤sizeLine∧Q (.lst (a++b)):=yi
theorem wCmp_lt {a b:Int} {Q:Bool→Prop}:wCmp .lt (.int a) (.int b) Q↔Q (decide (a < b)):=yr
theorem wCmp_ltT {a b:List D} {Q:Bool→Prop}:wCmp .lt (.tup a) (.tup b) Q↔∃ k,ltOk (.tup a) (.tup b) = some k∧Q k:=Iff.rfl
theorem wCmp_ltS {a b:Str} {Q:Bool→Prop}:wCmp .lt (.str a) (.str b) Q↔Q (decide (a.cps.toList < b.cps.toList)):=yr
theorem wCmp_gt {a b:Int} {Q:Bool→Prop}:wCmp .gt (.int a) (.int b) Q↔Q (decide (b < a)):=yr
theorem wCmp_eqI {a b:Int} {Q:Bool→Prop}:wCmp .eq (.int a) (.int b) Q↔Q (decide (a = b)):=yr
theorem wCmp_eqS {a b:Str} {Q:Bool→Prop}:wCmp .eq (.str a) (.str b) Q↔Q (a == b):=yr
theorem wCmp_eqIS {a:Int} {b:Str} {Q:Bool→Prop}:wCmp .eq (.int a) (.str b) Q↔Q false:=yr
theorem wCmp_neL {a:List D} {Q:Bool→Prop}:wCmp .ne (.lst a) (.lst []) Q↔depL a < 99999∧Q (!a.isEmpty):=by
 have h:depOk (.lst a) (.lst []) = decide (depL a < 99999):=by
  show (true && decide (min (depL a+1) 1≤150) && decide (max (depL a+1) 1 < 100000)) = _
  rw [Bool.true_and,decide_eq_true (show min (depL a+1) 1≤150 by omega),Bool.true_and]
  exact decide_eq_decide.mpr (by omega)
 have e:cmpD .ne (.lst a) (.lst []) = if depL a < 99999 then some (!a.isEmpty) else none:=by
  show (if depOk (.lst a) (.lst []) = true then _ else none) = _
  rw [h]
  by_cases q:depL a < 99999
  · rw [if_pos (decide_eq_true q),if_pos q]
    cases a<;>rfl
  · rw [if_neg (by rw [decide_eq_false q];exact Bool.false_ne_true),if_neg q]
 unfold wCmp
 rw [e]
 exact yi
theorem wCmp_inT {a:D} {ds:List D} {Q:Bool→Prop}:wCmp .isin a (.tup ds) Q↔(dep a≤150∧depL ds < 99999)∧Q (ds.any fun y=>eqD y a):=yi
theorem wBlt_lenL {ds:List D} {Q:D→Prop}:wBlt .len [.lst ds] Q↔Q (.int ds.length):=yr
theorem wBlt_lenT {ds:List D} {Q:D→Prop}:wBlt .len [.tup ds] Q↔Q (.int ds.length):=yr
theorem wBlt_lenS {x:Str} {Q:D→Prop}:wBlt .len [.str x] Q↔x.length≤sizeLine∧Q (.int x.length):=yi
theorem wBlt_min {i j:Int} {Q:D→Prop}:wBlt .min [.int i,.int j] Q↔Q (.int (if j < i then j else i)):=yr
theorem wBlt_max {i j:Int} {Q:D→Prop}:wBlt .max [.int i,.int j] Q↔Q (.int (if j > i then j else i)):=yr
theorem wBlt_maxL {ds:List D} {Q:D→Prop}:wBlt .max [.lst ds] Q↔∃ ns,intsD ds = some ns∧ns≠[]∧Q (.int (topI ns)):=by
 unfold wBlt
 simp only [bltD,maxD]
 cases h:intsD ds with
 | none=>simp
 | some ns=>by_cases hn:ns = []<;>simp [hn]
theorem wBlt_intB {b:Bool} {Q:D→Prop}:wBlt .toInt [.bl b] Q↔Q (.int (if b then 1 else 0)):=yr
theorem wBlt_intI {b:Int} {Q:D→Prop}:wBlt .toInt [.int b] Q↔Q (.int b):=yr
theorem wBlt_str {i:Int} {Q:D→Prop}:wBlt .toStr [.int i] Q↔i.natAbs.log2 < 1920∧Q (.str (toString i)):=yi
theorem wBlt_tupL {ds:List D} {Q:D→Prop}:wBlt .toTup [.lst ds] Q↔Q (.tup ds):=yr
theorem wBlt_tupT {ds:List D} {Q:D→Prop}:wBlt .toTup [.tup ds] Q↔Q (.tup ds):=yr
theorem wBlt_lstL {ds:List D} {Q:D→Prop}:wBlt .toLst [.lst ds] Q↔Q (.lst ds):=yr
theorem wBlt_lstT {ds:List D} {Q:D→Prop}:wBlt .toLst [.tup ds] Q↔Q (.lst ds):=yr
theorem wBlt_sum {ds:List D} {ns:List Int} {Q:D→Prop} (h:intsD ds = some ns):wBlt .sum [.lst ds] Q↔Q (.int ns.sum):=by simp [wBlt,bltD,sumD,h]
theorem wBlt_sorted {ds:List D} {Q:D→Prop}:wBlt .sorted [.lst ds] Q↔sortable ds = true∧Q (.lst (sortL ds)):=yi
theorem wTv_bl {b:Bool} {Q:Bool→Prop}:wTv (.bl b) Q↔Q b:=yr
theorem wTv_lst {ds:List D} {Q:Bool→Prop}:wTv (.lst ds) Q↔Q (!ds.isEmpty):=yr
theorem wIx_lst {ds:List D} {i:Int} {Q:D→Prop}:wIx (.lst ds) (.int i) Q↔∃ d,L2.atI ds i = some d∧Q d:=Iff.rfl
theorem wIx_tup0 {d:D} {ds:List D} {Q:D→Prop}:wIx (.tup (d::ds)) (.int 0) Q↔Q d:=by
 simp [wIx,ixD,L2.atI,L2.ixN]
theorem wItems_lst {ds:List D} {Q:List D→Prop}:wItems (.lst ds) Q↔Q ds:=yr
theorem wItems_tup {ds:List D} {Q:List D→Prop}:wItems (.tup ds) Q↔Q ds:=yr
theorem wItems_str {x:Str} {Q:List D→Prop}:wItems (.str x) Q↔x.length≤sizeLine∧Q (x.cps.toList.map fun c=>.str ⟨#[c]⟩):=yi
def wRun (G:List Fd) (gl:List D) (n i:Nat) (ds:List D) (Q:D→Prop):Prop:=∃ d,PP.run G gl n i ds = some d∧Q d
def retS (Q:D→Prop):Out→Prop
 | .rt d _=>Q d
 | .nx _=>Q .non
 | .ro d _=>Q d
 | _=>False
theorem wRun_mono {G:List Fd} {gl:List D} {n i:Nat} {ds:List D} {P Q:D→Prop} (h:wRun G gl n i ds P) (k:∀ d,P d→Q d):wRun G gl n i ds Q:=by
 obtain ⟨d,e,p⟩:=h
 exact ⟨d,e,k d p⟩
theorem wRun_def {G:List Fd} {gl:List D} {n i:Nat} {ds:List D} {Q:D→Prop} (fd:Fd) (h:G[i]? = some fd) (hl:ds.length = fd.ps.length) (hf:fd.hf = false) (q:wSs ⟨PP.run G gl n,gl,hfs G⟩ fd.body (init (fd.ps++fd.loc).length ds) (retS Q)):wRun G gl (n+1) i ds Q:=by
 obtain ⟨o,e,q⟩:=q
 unfold wRun
 have:PP.run G gl (n+1) i ds = outD (evSs ⟨PP.run G gl n,gl,hfs G⟩ fd.body (init (fd.ps++fd.loc).length ds)):=by
  conv=>lhs;unfold PP.run
  rw [h]
  dsimp only
  rw [if_pos hl,hf]
  rfl
 rw [this,e]
 cases o with
 | rt d δ=>exact ⟨d,rfl,q⟩
 | ro d δ=>exact ⟨d,rfl,q⟩
 | nx δ=>exact ⟨.non,rfl,q⟩
 | bk δ=>exact q.elim
 | ct δ=>exact q.elim
theorem wCall_run {G:List Fd} {gl:List D} {n f:Nat} {ds:List D} {Q:D→Prop}:wCall ⟨PP.run G gl n,gl,hfs G⟩ f ds Q↔wRun G gl n f ds Q:=Iff.rfl
theorem retS_rt {Q:D→Prop} {d:D} {δ:Loc}:retS Q (.rt d δ)↔Q d:=Iff.rfl
theorem retS_nx {Q:D→Prop} {δ:Loc}:retS Q (.nx δ)↔Q .non:=Iff.rfl
end PP
end
section
namespace PP
open PySem
theorem wIx_str {x:Str} {i:Int} {Q:D→Prop}:wIx (.str x) (.int i) Q↔x.length≤sizeLine∧∃ c,L2.atI x.cps.toList i = some c∧Q (.str ⟨#[c]⟩):=by
 unfold wIx ixD
 dsimp only
 constructor
 · rintro ⟨z,e,q⟩
   split at e
   · rw [Option.map_eq_some_iff] at e
     obtain ⟨c,e,rfl⟩:=e
     exact ⟨‹_›,c,e,q⟩
   · cases e
 · rintro ⟨h,c,e,q⟩
   exact ⟨_,by rw [if_pos h,e];rfl,q⟩
theorem wRun_eq {G:List Fd} {gl:List D} {n i:Nat} {ds:List D} {d:D} {Q:D→Prop} (h:PP.run G gl n i ds = some d):wRun G gl n i ds Q↔Q d:=by
 unfold wRun
 rw [h]
 exact ⟨fun ⟨_,e,q⟩=>by cases e;exact q,fun q=>⟨d,rfl,q⟩⟩
theorem wRun_out {G:List Fd} {gl:List D} {n i:Nat} {ds:List D} {d:D} (h:wRun G gl n i ds fun x=>x = d):PP.run G gl n i ds = some d:=by
 obtain ⟨x,e,rfl⟩:=h
 exact e
theorem at_ok {α:Type} {ds:List α} {j:Int} (h0:0≤j) (h1:j < ds.length):∃ d,d∈ds∧L2.atI ds j = some d:=by
 have hk:j.toNat < ds.length:=by omega
 refine ⟨ds[j.toNat],List.getElem_mem hk,?_⟩
 have:=L2.atI_nat (xs:=ds) (j:=j.toNat) (v:=ds[j.toNat]) (List.getElem?_eq_getElem hk)
 rwa [show ((j.toNat:Nat):Int) = j by omega] at this
theorem mul_r {a b:Int} (h0:-(2 ^ 64) < b) (h1:b < 2 ^ 64):mulOk a b = true:=by
 unfold mulOk
 simp only [decide_eq_true h0,decide_eq_true h1,Bool.and_self,Bool.or_true,Bool.true_or]
theorem mul_l {a b:Int} (h0:-(2 ^ 64) < a) (h1:a < 2 ^ 64):mulOk a b = true:=by
 unfold mulOk
 simp only [decide_eq_true h0,decide_eq_true h1,Bool.and_self,Bool.or_true,Bool.true_or]
theorem mul_b {a b:Int} (h0:a.natAbs < 2 ^ 200) (h1:b.natAbs < 2 ^ 200):mulOk a b = true:=by
 unfold mulOk
 simp only [decide_eq_true h0,decide_eq_true h1,Bool.and_self,Bool.or_true,Bool.true_or]
theorem str_app (a b:Str):(a++b).length = a.length+b.length:=by
 show (a.cps++b.cps).size = a.cps.size+b.cps.size
 exact Array.size_append
theorem small {n:Nat} (h:n≤1000):n≤sizeLine:=Nat.le_of_lt (Nat.lt_of_le_of_lt h (by decide))
theorem str_len (x:Str):x.cps.toList.length = x.length:=by
 show x.cps.toList.length = x.cps.size
 simp
theorem rng_mem {lo:Int} {n:Nat} {x:D} (h:x∈rngD lo n):∃ i:Nat,i < n∧x = .int (lo+i):=by
 unfold rngD at h
 rw [List.mem_map] at h
 obtain ⟨i,hi,rfl⟩:=h
 exact ⟨i,by simpa using hi,rfl⟩
theorem rng_len {lo:Int} {n:Nat}:(rngD lo n).length = n:=by simp [rngD]
theorem exInt2 {a b:Int} {P:Int→Int→Prop}:(∃ i j,D.int a = D.int i∧D.int b = D.int j∧P i j)↔P a b:=⟨fun ⟨_,_,e,f,q⟩=>by cases e;cases f;exact q,fun q=>⟨_,_,rfl,rfl,q⟩⟩
theorem wIx_tup1 {a b:D} {ds:List D} {Q:D→Prop}:wIx (.tup (a::b::ds)) (.int 1) Q↔Q b:=by
 have:L2.atI (a::b::ds) 1 = some b:=L2.atI_nat (j:=1) rfl
 simp [wIx,ixD,this]
theorem wIx_tup2 {a b c:D} {ds:List D} {Q:D→Prop}:wIx (.tup (a::b::c::ds)) (.int 2) Q↔Q c:=by
 have:L2.atI (a::b::c::ds) 2 = some c:=L2.atI_nat (j:=2) rfl
 simp [wIx,ixD,this]
theorem wIx_lst0 {d:D} {ds:List D} {Q:D→Prop}:wIx (.lst (d::ds)) (.int 0) Q↔Q d:=by
 simp [wIx,ixD,L2.atI,L2.ixN]
theorem wTg_tp2 {δ:Loc} {i j:Nat} {a b:D} {Q:Loc→Prop}:wTg δ (.tp [i,j]) (.tup [a,b]) Q↔wSet δ i (.val a) fun δ1=>wSet δ1 j (.val b) Q:=by
 rw [wTg_tp]
 unfold wSet
 simp only [List.all_cons,List.all_nil,List.length_set,Bool.and_true,Bool.and_eq_true,decide_eq_true_eq]
 exact ⟨fun ⟨⟨_,h1,h2⟩,q⟩=>⟨h1,h2,q⟩,fun ⟨h1,h2,q⟩=>⟨⟨rfl,h1,h2⟩,q⟩⟩
theorem wTg_tp3 {δ:Loc} {i j k:Nat} {a b c:D} {Q:Loc→Prop}:wTg δ (.tp [i,j,k]) (.tup [a,b,c]) Q↔wSet δ i (.val a) fun δ1=>wSet δ1 j (.val b) fun δ2=>wSet δ2 k (.val c) Q:=by
 rw [wTg_tp]
 unfold wSet
 simp only [List.all_cons,List.all_nil,List.length_set,Bool.and_true,Bool.and_eq_true,decide_eq_true_eq]
 exact ⟨fun ⟨⟨_,h1,h2,h3⟩,q⟩=>⟨h1,h2,h3,q⟩,fun ⟨h1,h2,h3,q⟩=>⟨⟨rfl,h1,h2,h3⟩,q⟩⟩
theorem wTg_tpl {δ:Loc} {is:List Nat} {ds:List D} {Q:Loc→Prop}:wTg δ (.tp is) (.lst ds) Q↔wTg δ (.tp is) (.tup ds) Q:=Iff.rfl
theorem wTg_pr2 {δ:Loc} {i j k:Nat} {a b c:D} {Q:Loc→Prop}:wTg δ (.pr i [j,k]) (.tup [a,.tup [b,c]]) Q↔wSet δ i (.val a) fun δ1=>wSet δ1 j (.val b) fun δ2=>wSet δ2 k (.val c) Q:=by
 unfold wTg wSet setTg
 simp only [List.all_cons,List.all_nil,List.length_set,Bool.and_true,Bool.and_eq_true,decide_eq_true_eq,List.length_cons,List.length_nil,true_and]
 constructor
 · rintro ⟨δ',e,q⟩
   split at e
   · rename_i h
     cases e
     exact ⟨h.1,h.2.1,h.2.2,q⟩
   · cases e
 · rintro ⟨h1,h2,h3,q⟩
   exact ⟨_,if_pos ⟨h1,h2,h3⟩,q⟩
end PP
end
section
namespace PP
open PySem
def SI:=And.intro (@List.map_cons.{0,0}) (And.intro (@List.map_nil.{0,0}) (And.intro (@List.cons_append.{0}) (And.intro (@List.nil_append.{0}) (And.intro (@List.append_nil.{0}) (And.intro (@List.length_cons.{0}) (And.intro (@List.length_nil.{0}) (And.intro (@List.replicate_succ.{0}) (@List.replicate_zero.{0}))))))))
def WS:=And.intro (@wE_pk) (And.intro (@wE_int) (And.intro (@wE_bl) (And.intro (@wE_non) (And.intro (@wE_str) (And.intro (@wE_bin) (And.intro (@wE_cmp) (And.intro (@wT_cmp) (And.intro (@wE_and) (And.intro (@wE_or) (And.intro (@wE_not) (And.intro (@wE_neg) (And.intro (@wT_and) (And.intro (@wT_or) (And.intro (@wT_not) (And.intro (@wT_var) (And.intro (@wT_pk) (And.intro (@wT_call) (And.intro (@wT_blt) (And.intro (@wE_ite) (And.intro (@wE_tup) (And.intro (@wE_lst) (And.intro (@wE_ix) (And.intro (@wE_sl) (And.intro (@wE_call) (And.intro (@wE_blt) (And.intro (@wEs_nil) (And.intro (@wEs_cons) (And.intro (@wO_no) (And.intro (@wO_yes) (And.intro (@wG_no) (And.intro (@wG_yes) (And.intro (@wI_rng) (And.intro (@wI_rng2) (And.intro (@wI_sq) (And.intro (@wE_comp) (And.intro (@thenS_nx) (And.intro (@thenS_rt) (And.intro (@thenS_bk) (And.intro (@thenS_ct) (And.intro (@loopS_nx) (And.intro (@loopS_ct) (And.intro (@loopS_bk) (And.intro (@loopS_rt) (And.intro (@wSet_zip) (And.intro (@wZip_succ) (And.intro (@wZip_zero) (And.intro (@wPut_zip) (And.intro (@wPutZ_succ) (And.intro (@wPutZ_zero) (And.intro (@wRev_cons) (And.intro (@wRev_nil) (And.intro (@wVar_succ) (And.intro (@wVar_val) (And.intro (@wVar_own) (And.intro (@wGet_succ) (And.intro (@wGet_val) (And.intro (@wGet_own) (And.intro (@wOwn_succ) (And.intro (@wOwn_own) (And.intro (@wVal_succ) (And.intro (@wVal_val) (And.intro (@wE_var') (And.intro (@wE_pop') (And.intro (@wSs_nil) (And.intro (@wSs_cons) (And.intro (@wS_asg) (And.intro (@wTg_nm) (And.intro (@wS_new) (And.intro (@wS_cmpT) (And.intro (@wS_cmpF) (And.intro (@wS_ret) (And.intro (@wS_retN) (And.intro (@wS_pass) (And.intro (@wS_brk) (And.intro (@wS_cont) (And.intro (@wS_ifs) (And.intro (@wS_for) (And.intro (@wS_while) (And.intro (@wS_append) (And.intro (@wS_extend) (And.intro (@wS_setix) (And.intro (@wOp_addI) (And.intro (@wOp_subI) (And.intro (@wOp_mulI) (And.intro (@wOp_modI) (And.intro (@wOp_fdivI) (And.intro (@wOp_powI) (And.intro (@wOp_addS) (And.intro (@wOp_mulS) (And.intro (@wOp_addT) (And.intro (@wOp_addL) (And.intro (@wCmp_lt) (And.intro (@wCmp_ltT) (And.intro (@wCmp_ltS) (And.intro (@wCmp_gt) (And.intro (@wCmp_eqI) (And.intro (@wCmp_eqS) (And.intro (@wCmp_neL) (And.intro (@wCmp_inT) (And.intro (@wBlt_lenL) (And.intro (@wBlt_lenT) (And.intro (@wBlt_lenS) (And.intro (@wBlt_min) (And.intro (@wBlt_max) (And.intro (@wBlt_maxL) (And.intro (@wBlt_intB) (And.intro (@wBlt_intI) (And.intro (@wBlt_str) (And.intro (@wBlt_tupL) (And.intro (@wBlt_tupT) (And.intro (@wBlt_lstL) (And.intro (@wBlt_lstT) (And.intro (@wBlt_sorted) (And.intro (@wTv_bl) (And.intro (@wTv_lst) (And.intro (@wIx_lst) (And.intro (@wIx_tup0) (And.intro (@wItems_lst) (And.intro (@wItems_tup) (And.intro (@wItems_str) (And.intro (@wCall_run) (And.intro (@retS_rt) (And.intro (@retS_nx) (And.intro (@wIx_str) (And.intro (@exBl) (And.intro (@exInt) (And.intro (@exLst) (And.intro (@exInt2) (And.intro (@wIx_tup1) (And.intro (@wIx_tup2) (And.intro (@wTg_tp2) (And.intro (@wTg_tp3) (And.intro (@wTg_tpl) (And.intro (@wTg_pr2) (And.intro (@wVar_odc) (And.intro (@wOdc_succ) (And.intro (@wOdc_odc) (And.intro (@wOp_addT0) (And.intro (@wCmp_eqIS) (True.intro))))))))))))))))))))))))))))))))))))))))))))))))))))))))))))))))))))))))))))))))))))))))))))))))))))))))))))))))))))))))))))))))))))))))))))
end PP
end
section
namespace PP
open PySem
theorem ans_congr {α:Type} {lt lt':Nat→Nat→Bool} {n:Nat} (e:∀ i j,i < n→j < n→lt i j = lt' i j):∀ (t:PySem.W.KasT α),inR lt n t→ans lt t = ans lt' t
 | .ret a,_=>rfl
 | .ask i j k,h=>by
   unfold inR at h
   rw [ans_ask,ans_ask,← e i j h.1 h.2.1]
   exact ans_congr e _ h.2.2
theorem range_map {α β:Type} (d:α) (f:α→β) (xs:List α):(List.range xs.length).map (fun i=>f (xs.getD i d)) = xs.map f:=by
 apply List.ext_getElem
 · simp
 · intro i h1 h2
   simp only [List.length_map] at h2
   simp [List.getD,List.getElem?_eq_getElem h2]
theorem sortL_up {α:Type} [Inhabited α] (g:α→D) (lt:α→α→Bool) (hlt:∀ x y,ltOk (g x) (g y) = some (lt x y)) (as:∀ a b,lt a b = true→lt b a = false) (tr:∀ a b c,lt b a = false→lt c b = false→lt c a = false) (xs:List α) :
 ∃ ys:List α,sortL (xs.map g) = ys.map g∧ys.Perm xs∧∀ i j,i≤j→j < ys.length→lt (ys.getD j default) (ys.getD i default) = false:=by
 have rf:∀ a,lt a a = false:=fun a=>by
  cases e:lt a a with
  | false=>rfl
  | true=>rw [as a a e] at e;cases e
 unfold sortL
 rw [List.length_map]
 split
 · rename_i h
   refine ⟨xs,rfl,List.Perm.refl _,fun i j h1 h2=>?_⟩
   have:i = j:=by omega
   subst this
   exact rf _
 · rename_i h
   have hg:∀ i,i < xs.length→(xs.map g).getD i .non = g (xs.getD i default):=fun i hi=>by
    simp [List.getD,List.getElem?_eq_getElem hi]
   have e:ans (ltIx (xs.map g)) (PySem.W.kas_sort xs.length) = ans (fun i j=>lt (xs.getD i default) (xs.getD j default)) (PySem.W.kas_sort xs.length):=by
    refine ans_congr (n:=xs.length) (fun i j hi hj=>?_) _ (sort_in (by omega))
    unfold ltIx
    rw [hg i hi,hg j hj,hlt]
    rfl
   rw [e]
   obtain ⟨z,p,u⟩:=sort_ok (lt:=fun i j=>lt (xs.getD i default) (xs.getD j default)) ⟨fun a b=>as _ _,fun a b c=>tr _ _ _⟩ xs.length (by omega)
   have pl:(ans (fun i j=>lt (xs.getD i default) (xs.getD j default)) (PySem.W.kas_sort xs.length)).toList.Perm (List.range xs.length):=(letI:Tbs:=⟨[],[]⟩;sort_list _)
   generalize ans (fun i j=>lt (xs.getD i default) (xs.getD j default)) (PySem.W.kas_sort xs.length) = r at z p u pl ⊢
   refine ⟨r.toList.map fun i=>xs.getD i default,?_,?_,fun i j h1 h2=>?_⟩
   · rw [List.map_map]
     refine List.map_congr_left fun i hi=>?_
     exact hg i (by simpa using pl.mem_iff.mp hi)
   · have:=pl.map fun i=>xs.getD i default
     rwa [show (List.range xs.length).map (fun i=>xs.getD i default) = xs from by simpa using range_map default id xs] at this
   · rw [List.length_map,Array.length_toList,z] at h2
     have hr:∀ k,k < xs.length→(r.toList.map fun i=>xs.getD i default).getD k default = xs.getD (r.getD k 0) default:=fun k hk=>by
      have hk':k < r.toList.length:=by rw [Array.length_toList,z];exact hk
      have hk2:k < r.size:=by rw [z];exact hk
      simp [List.getD,hk2,Array.getD]
     rw [hr i (by omega),hr j h2]
     exact u i j h1 h2
section
variable {cx:Cl} {δ:Loc}
theorem wComp_map {α:Type} {k:Nat} {tg:Tg} {ifs:Eo} {elt:E} {Q:List D→Loc→Prop} (g:α→D) (p:α→Bool) (h:α→D):∀ (xs:List α),(∀ x∈xs,wTg (δ++List.replicate k .no) tg (g x) fun δ2=>wG cx ifs δ2 fun b δ3=>b = p x∧if b = true then wE cx elt δ3 fun y δ4=>y = h x∧δ4.take δ.length = δ else δ3.take δ.length = δ) →
 Q ((xs.filter p).map h) δ→wComp cx k tg ifs elt (xs.map g) δ Q
 | [],_,q=>wComp_nil.mpr q
 | x::xs,hx,q=>by
   rw [List.map_cons,wComp_cons]
   obtain ⟨δ2,e,b,δ3,e2,rfl,e3⟩:=hx x List.mem_cons_self
   refine ⟨δ2,e,_,δ3,e2,?_⟩
   cases hp:p x with
   | true =>
     rw [hp,if_pos rfl] at e3
     obtain ⟨y,δ4,e4,rfl,t⟩:=e3
     rw [if_pos rfl]
     refine ⟨_,δ4,e4,?_⟩
     show wComp cx k tg ifs elt _ (δ4.take δ.length) _
     rw [t]
     refine wComp_map g p h xs (fun z hz=>hx z (List.mem_cons_of_mem _ hz)) ?_
     rw [List.filter_cons_of_pos hp] at q
     exact q
   | false =>
     rw [hp,if_neg Bool.false_ne_true] at e3
     rw [if_neg Bool.false_ne_true,e3]
     refine wComp_map g p h xs (fun z hz=>hx z (List.mem_cons_of_mem _ hz)) ?_
     rw [List.filter_cons_of_neg (by simp [hp])] at q
     exact q
theorem wFor_map {α:Type} {tg:Tg} {body:Ss} {Q:Out→Prop} (g:α→D) (P:List α→Loc→Prop) (step:∀ x xs δ,P (x::xs) δ→wTg δ tg (g x) fun δ2=>wSs cx body δ2 (loopS (P xs) Q)) (fin:∀ δ,P [] δ→Q (.nx δ)) (xs:List α) (δ:Loc) (h:P xs δ):wFor cx tg body (xs.map g) δ Q:=by
 induction xs generalizing δ with
 | nil=>exact wFor_nil.mpr (fin δ h)
 | cons x xs ih =>
   rw [List.map_cons,wFor_cons]
   obtain ⟨δ2,e,o,e2,q⟩:=step x xs δ h
   refine ⟨δ2,e,o,e2,?_⟩
   cases o with
   | nx δ3=>exact ih δ3 q
   | ct δ3=>exact ih δ3 q
   | bk δ3=>exact q
   | rt d δ3=>exact q
   | ro d δ3=>exact q
end
end PP
end
section
namespace PP
open PySem
section
variable {cx:Cl} {δ:Loc}
end
end PP
end
section
namespace PP
open PySem
section
variable {cx:Cl} {δ:Loc}
theorem wS_forZ {tg:Tg} {es:Es} {body:Ss} {Q:Out→Prop}:wS cx (.forZ tg es body) δ Q↔wEs cx es δ fun ds δ1=>∃ x y xs ys,ds = [x,y]∧seqD x = some xs∧seqD y = some ys∧wFor cx tg body (zipD xs ys) δ1 Q:=by
 unfold wS wEs wFor forF
 simp only [evS,Option.bind_eq_bind,Option.bind_eq_some_iff,Prod.exists]
 constructor
 · rintro ⟨o,⟨ds,δ1,h1,e⟩,q⟩
   split at e
   · split at e
     · exact ⟨_,_,h1,_,_,_,_,rfl,‹_›,‹_›,o,e,q⟩
     · cases e
   · cases e
 · rintro ⟨ds,δ1,h1,x,y,xs,ys,rfl,e1,e2,o,e,q⟩
   exact ⟨o,⟨_,_,h1,by dsimp only;rw [e1,e2];exact e⟩,q⟩
end
end PP
end
section
namespace PP
open PySem L2 PyProof.Rows
variable [Tbs]
section
variable {K:PySem.W.Frag} {H:Hp} {F:Addr→Prop}
end
section
variable {X:Cx} {cx:Cl}
end
end PP
end
section
namespace PP
open PySem L2 PyProof.Rows
variable [Tbs]
section
variable {X:Cx}
theorem fills_dvm:fillsNumberSlot (.type "int") "divmod" = pure true :=
 fillsNumberSlot_of (id:="int.__divmod__") (r:=some (.builtin "int.__rdivmod__")) (by rw [typeLookup_type,builtinLookup_eq_fast];kernel_rfl) (by decide +kernel) (by rw [typeLookup_type,builtinLookup_eq_fast];kernel_rfl)
theorem slot_dvm:Slot "int" (dunder "divmod") "int.__divmod__":=(show ("__divmod__":Str) = dunder "divmod" by kernel_rfl)▸PySem.F.slot_int_divmod
theorem int_dvm {prog:Program} {w:World} {A:Around} {E:Value→Shared→Prop} {s:Shared} {a b:Int} {t u:Tok} {Q:Value→Shared→Prop} (hb:b≠0) (hp:Builtin.divisionGoesByPylong a b = false)
 (h:Q (.ref s.heap.objs.size) { s with heap:=s.heap.push { cls:=.type "tuple",data:=.seq #[.int (a.fdiv b) s.toks,.int (a.fmod b) (s.toks+1)] },toks:=s.toks+1+1 }) :
 wpAny (model prog w) A (call (.builtin "int.__divmod__") [.int a t,.int b u]) (fun v s'=>v≠.notImplemented∧Q v s') E s:=by
 refine wpAny_call_entry PySem.F.slot_int_divmod (typeIs_int s a t) PySem.F.entry_int_divmod ?_ (PySem.F.args_int_divmod_2 _ _)
 have hb':(b == 0) = false:=by simpa using hb
 show wpAny _ _ (do
  if b == 0 then rule "int.divmod.zero";raiseError "ZeroDivisionError" "integer division or modulo by zero"
  Builtin.roomForPylong a b
  ret (← newTuple [← mkInt (a.fdiv b),← mkInt (a.fmod b)])) _ _ s
 simp only [hb',Bool.false_eq_true,if_false,pure_bind]
 refine wpAny_bind (wpAny_roomForPylong (.inl hp) ?_)
 refine wpAny_bind (wpAny_mkInt (wpAny_bind (wpAny_mkInt (wpAny_bind (wpAny_newTuple ?_ (show 2≤sizeLine by decide))))))
 exact wpAny_pure ⟨_,rfl,by simp,h⟩
theorem call_dvm:CallR X (.builtin "divmod") (fun xs H Q=>∃ i j,xs = [.int i,.int j]∧0 < j∧j < 1073741824∧∀ p,H p = none→Q (.ref p) (upd H p (.tup [.int (i / j),.int (i % j)]))):=by
 intro pins s σ H xs us Q I r h
 obtain ⟨i,j,rfl,h1,h2,q⟩:=h
 obtain ⟨u,w',rfl,⟨t,rfl⟩,⟨t',rfl⟩⟩:=vals2 r
 refine Calls.call_function_entry (b:=Builtin.«divmod») (by decide +kernel) (by decide +kernel) (entryFor_of_tree (by kernel_rfl)) (by unfold argsOk;kernel_rfl) ?_
 unfold Builtin.«divmod»
 refine wpAny_bind (m:=someArgs "divmod" 2 2 _) (wpAny_pure ?_)
 show wpAny _ _ (do let v ← Builtin.Builtins.binaryNamed "divmod()" "divmod" (.int i t) (.int j t');ret v) _ _ s
 refine wpAny_bind ?_
 unfold Builtin.Builtins.binaryNamed
 refine wpAny_holding ?_
 have fin:EP X pins σ Q (.ref s.heap.objs.size) { s with heap:=s.heap.push { cls:=.type "tuple",data:=.seq #[.int (i.fdiv j) s.toks,.int (i.fmod j) (s.toks+1)] },toks:=s.toks+1+1 }:=by
  rw [Int.fdiv_eq_ediv_of_nonneg i (by omega),Int.fmod_eq_emod_of_nonneg i (by omega)]
  refine ⟨.ref s.heap.objs.size,upd H s.heap.objs.size (.tup [.int (i / j),.int (i % j)]),I.laid (t':=s.toks+1+1) (fun b u e=>Heap.get?_push_of_some _ e) (Nat.le_refl _) ?_,rfl,q _ (I.hok.fresh (Nat.le_refl _))⟩
  exact ⟨show 2≤sizeLine by decide,[.int (i / j) s.toks,.int (i % j) (s.toks+1)],.cons ⟨_,rfl⟩ (.cons ⟨_,rfl⟩ .nil),⟨_,Heap.get?_push_size _ rfl,rfl,_,rfl⟩⟩
 have hc:=int_dvm (prog:=X.prog) (w:=X.w) (A:=X.A.in1) (E:=X.xe) (t:=t) (u:=t') (Q:=fun v s'=>EP X pins σ Q v s') (show j≠0 by omega) (PyProof.noPylong_small (x:=i) (by omega)) fin
 have h9:=wpAny_binaryOp1_same (M:=model X.prog X.w) (A:=X.A.in1) (E:=X.xe) (s:=s) (a:=.int i t) (b:=.int j t') (T:="int") (nm:="divmod") (id:="int.__divmod__") (Q:=fun o s'=>∃ v,o = some v∧EP X pins σ Q v s') (typeIs_int s i t) (typeIs_int s j t') fills_dvm slot_dvm (wpAny_mono hc (fun v s' h=>⟨h.1,v,rfl,h.2⟩) fun _ _ h=>h)
 refine wpAny_bind (wpAny_mono h9 (fun o s' h=>?_) fun _ _ h=>h)
 obtain ⟨v,rfl,h⟩:=h
 exact wpAny_pure (wpAny_pure ⟨_,rfl,h⟩)
theorem cb_dvm:CallR X (.builtin "divmod") (rB X.K dvmD):=by
 refine CallR.imp call_dvm fun xs H Q ⟨F,ds,d,fd,r,e,q⟩=>?_
 unfold dvmD at e
 split at e
 · split at e
   · rename_i hb
     cases e
     obtain ⟨v,u,rfl,r1,r2⟩:=b2 r
     refine ⟨_,_,by rw [r1.int,r2.int],hb.1,hb.2,fun p hp=>q _ _ (same_new hp _) ?_⟩
     unfold Rel
     exact ⟨p,_,rfl,SqT.of upd_same,RelL.cons (rel_int _) (RelL.cons (rel_int _) RelL.nil)⟩
   · cases e
 · cases e
end
end PP
end
section
namespace PP
open PySem L2 PyProof.Rows
variable [Tbs]
section
variable {cx:Cl} {k:Nat}
theorem noPk_ok:∀ {es:Es},noPk es = true→okEs es = true
 | .nil,_=>rfl
 | .cons e es,h=>by
   have h':(!isPk e && noPk es) = true:=h
   rw [Bool.and_eq_true] at h'
   show ((!isPk e || npS es) && okEs es) = true
   rw [h'.1,noPk_ok h'.2];rfl
theorem star_any {c:Ck} {env:Env} {pos:Pos}:∀ {es:Es} {ys:List Expr},ckEs c es ys = true→(backTo pos (starEach ys env)).any (·.1) = false
 | .nil,ys,h=>by obtain ⟨rfl,_⟩:=on0_of h;rfl
 | .cons e es,ys,h=>by
   obtain ⟨_,_,rfl,hh⟩:=onS_of h
   rw [Bool.and_eq_true] at hh
   rw [head_star (ck_head hh.1)]
   show (false || (backTo pos (starEach _ env)).any (·.1)) = false
   rw [star_any hh.2];rfl
theorem scope_of {X:Cx} {c:Ck} {sc:Scope} (C:Cok X c cx k) (h:scopeOk c sc = true):CScope X sc:=by
 unfold scopeOk at h
 rw [Bool.and_eq_true,List.all_eq_true] at h
 obtain ⟨h1,h2⟩:=h
 have q:∀ p∈sc.names,p.2≠.cell∧(p.2 = .local→sc.names.lookup p.1 = some .local)∧(p.2 = .free→c.sc.names.lookup p.1 = some .cell∨c.sc.names.lookup p.1 = some .free):=fun p hp=>by
  have z:=h2 p hp
  rw [Bool.and_eq_true,Bool.and_eq_true] at z
  obtain ⟨⟨a,b⟩,d⟩:=z
  refine ⟨of_decide_eq_true a,fun e=>?_,fun e=>?_⟩
  · rw [Bool.or_eq_true] at b
    rcases b with b | b
    · simp [e] at b
    · exact of_decide_eq_true b
  · rw [Bool.or_eq_true] at d
    rcases d with d | d
    · simp [e] at d
    · split at d
      · exact .inl ‹_›
      · exact .inr ‹_›
      · cases d
 exact ⟨of_decide_eq_true h1,fun y hy=>(q y hy).1,fun y hy e=>(q y hy).2.1 e,fun x hx=>C.kc x ((q _ hx).2.2 rfl)⟩
theorem cok_block {X:Cx} {c:Ck} {sc:Scope} {Nc:List Str} (C:Cok X c cx k) (h:scopeOk c sc = true) (hn:Nc.Nodup) (cl:List (Str × Addr)) (Ca:Addr) (s:Shared) (H:Hp) (fp:List Addr):Cok (cxC X sc cl Ca Nc s H fp) ⟨Nc,sc,c.fns,c.gn⟩ cx k:=by
 have S:=scope_of C h
 have kd:∀ x,(cxC X sc cl Ca Nc s H fp).env.kindOf x = (sc.names.lookup x).map fun k=>if (k == NameKind.free && X.env.scope.kind == .function && X.env.kindOf x == some .cell) then NameKind.cell else k:=fun x=>comp_kind x
 refine ⟨rfl,hn,fun x hx=>?_,fun x hx=>?_,fun x hx=>?_,fun x hx=>?_,C.calm,rfl,C.room,C.fns,C.fnO,C.blt,C.glob,C.gsome⟩
 · have e:=kd x
   show (cxC X sc cl Ca Nc s H fp).env.kindOf x = some .local∨(cxC X sc cl Ca Nc s H fp).env.kindOf x = some .cell∨(cxC X sc cl Ca Nc s H fp).env.kindOf x = some .free
   rw [e]
   rcases hx with hx | hx | hx
   · rw [hx];exact .inl rfl
   · exact absurd rfl (S.nocell _ (PySem.mem_of_lookup hx))
   · rw [hx]
     simp only [Option.map_some]
     split
     · exact .inr (.inl rfl)
     · exact .inr (.inr rfl)
 · show (cxC X sc cl Ca Nc s H fp).env.kindOf x = some .globalImplicit
   rw [kd x]
   have hx:sc.names.lookup x = some .globalImplicit:=hx
   rw [hx]
   rfl
 · have:sc.names.lookup x = some .local:=by
    rcases hx with hx | hx
    · exact hx
    · exact absurd rfl (S.nocell _ (PySem.mem_of_lookup hx))
   have e:(cxC X sc cl Ca Nc s H fp).env.kindOf x = some .local:=by rw [kd x,this];rfl
   exact ⟨.inl e,.inr e⟩
 · rw [kd x]
   have hx:sc.names.lookup x = some .cell∨sc.names.lookup x = some .free:=hx
   rcases hx with hx | hx
   · exact absurd rfl (S.nocell _ (PySem.mem_of_lookup hx))
   · rw [hx]
     simp only [Option.map_some]
     split
     · exact .inl rfl
     · exact .inr rfl
theorem names_of' {c:Ck} {sc:Scope} {Nc:List Str} (h:namesOk c sc Nc = true):Nc.Nodup∧∀ i x,i < c.N.length→Nc[i]? = some x→Vis sc x→c.N[i]? = some x∧sc.names.lookup x = some .free:=by
 unfold namesOk at h
 rw [Bool.and_eq_true,List.all_eq_true] at h
 refine ⟨of_decide_eq_true h.1,fun i x hi e v=>?_⟩
 have z:=h.2 i (by simpa using hi)
 rw [e] at z
 dsimp only at z
 rw [Bool.or_eq_true,Bool.and_eq_true] at z
 have vb:visB sc x = true:=by
  unfold visB
  rcases v with v | v | v<;>rw [v]
 rcases z with z | ⟨z1,z2⟩
 · rw [vb] at z;cases z
 · exact ⟨of_decide_eq_true z1,of_decide_eq_true z2⟩
theorem comp_any {X:Cx} {c:Ck} {Nc:List Str} {kk:Nat} {tg:Tg} {src:It} {ifs:Eo} {elt:E} {pins:List (Addr × Obj)} {s:Shared} {σ:L2.St} {H:Hp} {Q:VK} (C:Cok X c cx k) (I:Inv X pins σ H s) (n:(!isPk elt) = true) (hk:Nc.length = c.N.length+kk) (hge:tgGe c.N.length tg = true)
 {G:Gh} {F:Addr→Prop} {δ δ':Loc} {d:D} (ok:Ok X.K G F σ H δ) (ev:evE cx (.comp kk tg src ifs elt) δ = some (d,δ'))
 (q:∀ p ys xs H1 F1 H2 F2,d = .lst ys→Step G F H F1 H1→Step G F1 H1 F2 H2→H1 p = none→G.free p→Ok X.K (G.and p) F2 σ H2 δ'→H2 p = some (.lst xs)→RelL X.K H2 F2 ys xs→(np (.comp kk tg src ifs elt) = true→Sim H H2)→Q (.ref p) H2) :
 tLC (Nc.length - X.N.length) (tI X.K cx src) (gTg X.K tg) (tG X.K cx ifs) (tE X.K cx elt) σ H Q:=by
 obtain ⟨ds,δ1,ys,ei,ec,hz,rfl⟩:=comp_ev ev
 have ek:Nc.length - X.N.length = kk:=by rw [C.hN,hk];omega
 rw [ek]
 refine ⟨G,F,δ,ds,δ1,ok,ei,fun J H1 F1 st1 sm1 ok1 wk=>fun p hp=>?_⟩
 have hg:=ok1.free hp
 refine comp_turns n (by rw [I.len,C.hN];exact hge) ok1 (wk _) hp ec hz fun σ' H2 F2 xs ok2 eD rl st2 sm2=>?_
 refine q p ys xs H1 F1 H2 F2 rfl st1 st2 hp hg ok2 eD rl fun z=>?_
 have z':(npI src && npO ifs && np elt) = true:=z
 rw [Bool.and_eq_true,Bool.and_eq_true] at z'
 exact (sm1 z'.1.1).trans (sm2 (by rw [z'.1.2,z'.2];rfl))
theorem comp_tLC {X:Cx} {c:Ck} {Nc:List Str} {kk:Nat} {tg:Tg} {src:It} {ifs:Eo} {elt:E} {pins:List (Addr × Obj)} {s:Shared} {σ:L2.St} {H:Hp} {Q:VK} (C:Cok X c cx k) (I:Inv X pins σ H s) (n:(!isPk elt) = true) (hk:Nc.length = c.N.length+kk) (hge:tgGe c.N.length tg = true)
 (h:tE X.K cx (.comp kk tg src ifs elt) σ H Q):tLC (Nc.length - X.N.length) (tI X.K cx src) (gTg X.K tg) (tG X.K cx ifs) (tE X.K cx elt) σ H Q:=by
 obtain ⟨G,F,δ,d,δ',ok,ev,post⟩:=h
 refine comp_any C I n hk hge ok ev fun p ys xs H1 F1 H2 F2 e st1 st2 hp hg ok2 eD rl sm=>?_
 subst e
 have st':Step G F1 H1 (fun b=>F2 b∧b≠p) H2:=⟨st2.keep,fun b z=>st2.grow b z.1,fun b o r f e=>by
  obtain ⟨a1,a2⟩:=st2.res b o r f e
  exact ⟨⟨a1,fun w=>by rw [w,hp] at e;cases e⟩,a2⟩,st2.tb⟩
 refine post (.ref p) H2 _ (st1.trans st') sm (ok2.leave hg) (relm ?_)
 unfold Rel
 exact ⟨p,xs,rfl,.inl ⟨.inl eD,fun z=>z.2 rfl⟩,RelL.less ok2.fd (fun b z=>z.1) rl⟩
theorem snd_comp {X:Cx} {c:Ck} {sc:Scope} {Nc:List Str} {kk:Nat} {tg:Tg} {src:It} {ifs:Eo} {elt:E} {ex t it:Expr} {il:List Expr} {pos:Pos} (C:Cok X c cx k) (n:(!isPk elt) = true) (hk:Nc.length = c.N.length+kk) (hge:tgGe c.N.length tg = true) (hs:scopeOk c sc = true) (hn:namesOk c sc Nc = true)
 (htg:∀ cl Ca s H fp,PG (cxC X sc cl Ca Nc s H fp) t (gTg X.K tg)) (hI:PI X t it (tI X.K cx src)) (hG:∀ cl Ca s H fp,PTs (cxC X sc cl Ca Nc s H fp) il (tG X.K cx ifs)) (hE:∀ cl Ca s H fp,PE (cxC X sc cl Ca Nc s H fp) ex (tE X.K cx elt))
 (hset:∀ v,foldedSetIterable it X.env v = pure v):PE X (.ListComp ex [⟨t,it,il,0⟩] sc pos) (tE X.K cx (.comp kk tg src ifs elt)):=by
 obtain ⟨nd,hvis⟩:=names_of' hn
 intro pins s σ H Q I h
 refine pe_lcomp (Nc:=Nc) C.xe C.calm (scope_of C hs) (fun i x hi=>by rw [C.hN] at hi ⊢;exact hvis i x hi) (by rw [C.hN,hk];omega) hI htg hG hE hset pins s σ H Q I ?_
 exact comp_tLC C I n hk hge h
theorem call_of {X:Cx} {c:Ck} {f:Nat} {es:Es} {n:Str} {p pos:Pos} {xs:List Expr} (C:Cok X c cx k) (hA:PA X xs (tEs X.K cx es)) (h:(match c.fns[f]? with
 | some (m,ps)=>decide (m = n) && globIs c n && decide (ps.length = esLen es) && ckEs c es xs && noPk es && !xs.isEmpty
 | none=>false) = true):PE X (.Call (.Name n p) xs [] pos) (tE X.K cx (.call f es)):=by
 split at h
 · rename_i m ps ef
   simp only [Bool.and_eq_true] at h
   obtain ⟨⟨⟨⟨⟨h1,h2⟩,h3⟩,h4⟩,h5⟩,h6⟩:=h
   have e:=of_decide_eq_true h1
   subst e
   obtain ⟨a,fd,hm,hk,hb,fn⟩:=C.fns f _ _ ef
   obtain ⟨g1,g2,g3⟩:=C.global h2
   cases xs with
   | nil=>simp at h6
   | cons y ys =>
     obtain ⟨_,_,_,a1,a2⟩:=ckEs_cons h4
     exact snd_call h5 fn C.room g1 hm hk hb hA g2 (head_star (ck_head a1) _ _) (star_any a2)
 · cases h
theorem blt_of {X:Cx} {c:Ck} {f:Blt} {es:Es} {p pos:Pos} {y:Expr} {ys:List Expr} (C:Cok X c cx k) (hg:globIs c (bltNm f) = true) (ht:tyName f = none) (hA:PA X (y::ys) (tEs X.K cx es)) (h:ckEs c es (y::ys) = true):PE X (.Call (.Name (bltNm f) p) (y::ys) [] pos) (tE X.K cx (.blt f es)):=by
 obtain ⟨g1,g2,g3⟩:=C.global hg
 obtain ⟨e,es',rfl,h1,h2⟩:=ckEs_cons h
 have he:=head_star (ck_head h1) ys X.env
 have hpl:=star_any (env:=X.env) (pos:=pos) h2
 cases f with
 | len=>exact snd_blt lenD rfl (pe_callB cb_len g1 (C.blt _ (by decide +kernel)) rfl hA g3 g2 he hpl)
 | min=>exact snd_blt minD rfl (pe_callB (cb_min C.calm) g1 (C.blt _ (by decide +kernel)) rfl hA g3 g2 he hpl)
 | max=>exact snd_blt maxD rfl (pe_callB (cb_max C.calm) g1 (C.blt _ (by decide +kernel)) rfl hA g3 g2 he hpl)
 | toInt=>exact snd_blt toIntD rfl (pe_callTy cb_int g1 (C.blt _ (by decide +kernel)) rfl hA g3 g2 he hpl)
 | toStr=>exact snd_blt toStrD rfl (pe_callTy cb_str g1 (C.blt _ (by decide +kernel)) rfl hA g3 g2 he hpl)
 | toTup=>exact snd_blt toTupD rfl (pe_callTy cb_tup g1 (C.blt _ (by decide +kernel)) rfl hA g3 g2 he hpl)
 | toLst=>exact snd_blt toLstD rfl (pe_callTy cb_lst g1 (C.blt _ (by decide +kernel)) rfl hA g3 g2 he hpl)
 | dvm=>exact snd_blt dvmD rfl (pe_callB cb_dvm g1 (C.blt _ (by decide +kernel)) rfl hA g3 g2 he hpl)
 | sorted=>exact snd_blt sortedD rfl (pe_callB (cb_sorted C.units) g1 (C.blt _ (by decide +kernel)) rfl hA g3 g2 he hpl)
 | any=>exact snd_blt anyD rfl (pe_callB (cb_any C.calm) g1 (C.blt _ (by decide +kernel)) rfl hA g3 g2 he hpl)
 | sum=>exact snd_blt sumD rfl (pe_callB (cb_sum C.calm) g1 (C.blt _ (by decide +kernel)) rfl hA g3 g2 he hpl)
 | _=>cases ht
end
end PP
end
section
namespace PP
open PySem L2 PyProof.Rows
variable [Tbs]
section
variable {cx:Cl} {k:Nat}
theorem tgNames_len {c:Ck} {tg:Tg} {ts:List Str} {kk:Nat} (h:ts.length = kk):(maskN ts c.N++ts).length = c.N.length+kk:=by
 unfold maskN
 rw [List.length_append,List.length_map,h]
theorem ckI_set {c:Ck} {t:It} {x:Expr} (h:ckI c t x = true) (env:Env) (v:Value):foldedSetIterable x env v = pure v:=by
 cases t with
 | rng e=>obtain ⟨_,_,_,_,rfl,_⟩:=onCN_of h;rfl
 | rng2 a b=>obtain ⟨_,_,_,_,rfl,_⟩:=onCN_of h;rfl
 | sq e =>
   have h:(ckE c e x && !isPk e) = true:=h
   rw [Bool.and_eq_true] at h
   exact head_set (ck_head h.1) env v
theorem blt_any {X:Cx} {c:Ck} {f:Blt} {es:Es} {x:Expr} (C:Cok X c cx k) (h:ckE c (.blt f es) x = true) (hE:∀ e y,es = .cons e .nil→ckE c e y = true→PE X y (tE X.K cx e)) (hA:∀ xs,ckEs c es xs = true→okEs es = true→PA X xs (tEs X.K cx es)) :
 PE X x (tE X.K cx (.blt f es))∧∀ whole,isTrue x X.env whole = (do let v ← whole;standAt x.pos;holding [v] (truthy v)):=by
 obtain ⟨n,np,xs,p,rfl,hh⟩:=onCN_of h
 refine ⟨?_,fun _=>rfl⟩
 simp only [Bool.and_eq_true] at hh
 obtain ⟨⟨h1,h2⟩,h3⟩:=hh
 have e:=of_decide_eq_true h1
 subst e
 cases hT:tyName f with
 | some T =>
   rw [hT] at h3
   obtain ⟨y,w,rfl,h4⟩:=on2_of h3
   obtain ⟨t,tp,rfl,h5⟩:=onName_of h4
   simp only [Bool.and_eq_true] at h5
   obtain ⟨⟨⟨a1,a2⟩,a3⟩,a4⟩:=h5
   have et:=of_decide_eq_true a1
   cases es with
   | nil=>exact absurd (on0_of a3).1 (by simp)
   | cons e es' =>
     obtain ⟨_,_,q0,a3'⟩:=onS_of a3
     cases q0
     rw [Bool.and_eq_true] at a3'
     cases es' with
     | cons _ _=>obtain ⟨_,_,q0,_⟩:=onS_of a3'.2;cases q0
     | nil =>
       have q:=hE e y rfl a3'.1
       obtain ⟨t1,t2,t3⟩:=C.global a2
       have tb:t∈bltNames:=by
        subst et
        cases f<;>simp [tyName] at hT<;>subst hT<;>decide +kernel
       have hs:starEach [y,.Name t tp] X.env = [(false,eval y X.env),(false,eval (.Name t tp) X.env)]:=by rw [head_star (ck_head a3'.1)];rfl
       have nm:bltNm f = ("isinstance":Str):=by cases f<;>simp [tyName] at hT<;>rfl
       rw [nm] at h2 ⊢
       obtain ⟨g1,_,_⟩:=C.global h2
       exact snd_is hT et g1 (C.blt _ (by decide +kernel)) t1 (C.blt _ tb) q hs
 | none =>
   rw [hT] at h3
   simp only [Bool.and_eq_true] at h3
   obtain ⟨⟨b1,b2⟩,b3⟩:=h3
   cases xs with
   | nil=>simp at b1
   | cons y ys=>exact blt_of C h2 hT (hA _ b2 b3) b2
theorem callT {X:Cx} {c:Ck} {f:Nat} {es:Es} {x:Expr} (C:Cok X c cx k) (h:ckE c (.call f es) x = true) (hA:∀ xs,ckEs c es xs = true→okEs es = true→PA X xs (tEs X.K cx es)) :
 PE X x (tE X.K cx (.call f es))∧∀ whole,isTrue x X.env whole = (do let v ← whole;standAt x.pos;holding [v] (truthy v)):=by
 obtain ⟨n,np,xs,p,rfl,hh⟩:=onCN_of h
 refine ⟨?_,fun _=>rfl⟩
 have h':=hh
 split at h'
 · simp only [Bool.and_eq_true] at h'
   exact call_of C (hA _ h'.1.1.2 (noPk_ok h'.1.2)) hh
 · cases h'
theorem noT {X:Cx} {e:E} {x:Expr} (h:∀ δ,evT cx e δ = none):PT X x (tT X.K cx e):=fun pins s σ H Q I q=>by
 obtain ⟨G,F,δ,b,δ',ok,ev,post⟩:=q
 rw [h] at ev
 cases ev
theorem noE {X:Cx} {e:E} {x:Expr} (h:∀ δ,evE cx e δ = none):PE X x (tE X.K cx e):=fun pins s σ H Q I q=>by
 obtain ⟨G,F,δ,b,δ',ok,ev,post⟩:=q
 rw [h] at ev
 cases ev
mutual
theorem sndE:∀ (e:E) (X:Cx) (c:Ck) (x:Expr),Cok X c cx k→ckE c e x = true→PE X x (tE X.K cx e)
 | .var i,X,c,x,C,h=>by
   obtain ⟨_,_,rfl,hq1⟩:=onName_of h
   replace h:=hq1
   · obtain ⟨n1,n2,n3,n4⟩:=C.name h
     exact snd_var n1 n2 n3 n4
 | .pk i,X,c,x,C,h=>by
   obtain ⟨_,_,rfl,hq1⟩:=onName_of h
   replace h:=hq1
   · obtain ⟨n1,n2,n3,n4⟩:=C.name h
     exact snd_pk n1 n2 n3 n4
 | .glob g,X,c,x,C,h=>by
   obtain ⟨_,_,rfl,hq1⟩:=onName_of h
   replace h:=hq1
   · rw [Bool.and_eq_true] at h
     have e:=of_decide_eq_true h.1
     obtain ⟨g1,g2,g3⟩:=C.global h.2
     obtain ⟨d,hd⟩:=C.gsome g _ e
     obtain ⟨u,v,hm,r,hr⟩:=C.glob g _ d e hd
     exact snd_glob g1 hm r (fun d' hd'=>by rw [hd] at hd';cases hd';exact hr) g2
 | .int i,X,c,x,C,h=>by
   obtain ⟨_,_,_,rfl,hq1⟩:=onC_of h
   obtain ⟨_,rfl,hq2⟩:=onI_of hq1
   replace h:=hq2
   · have e:=of_decide_eq_true h;subst e;exact snd_int
 | .bl i,X,c,x,C,h=>by
   obtain ⟨_,_,_,rfl,hq1⟩:=onC_of h
   obtain ⟨_,rfl,hq2⟩:=onB_of hq1
   replace h:=hq2
   · have e:=of_decide_eq_true h;subst e;exact snd_bl
 | .non,X,c,x,C,h=>by
   obtain ⟨_,_,_,rfl,hq1⟩:=onC_of h
   replace h:=hq1
   have e:=isNon_of h
   subst e
   exact snd_non
 | .str i,X,c,x,C,h=>by
   obtain ⟨_,_,_,rfl,hq1⟩:=onC_of h
   obtain ⟨_,rfl,hq2⟩:=onT_of hq1
   replace h:=hq2
   · have e:=of_decide_eq_true h;subst e;exact snd_str
 | .bin op a b,X,c,x,C,h=>by
   obtain ⟨_,_,_,_,rfl,hq1⟩:=onBin_of h
   replace h:=hq1
   · simp only [Bool.and_eq_true] at h
     obtain ⟨⟨⟨h1,h2⟩,h3⟩,h4⟩:=h
     exact snd_bin h1 h4 (sndE a X c _ C h2) (sndE b X c _ C h3)
 | .cmp op a b,X,c,x,C,h=>by
   obtain ⟨_,_,_,_,rfl,hq1⟩:=onCmp_of h
   obtain ⟨_,rfl,hq2⟩:=on1_of hq1
   obtain ⟨_,rfl,hq3⟩:=on1_of hq2
   replace h:=hq3
   · simp only [Bool.and_eq_true] at h
     obtain ⟨⟨⟨h1,h2⟩,h3⟩,h4⟩:=h
     exact snd_cmp C.units h1 h4 (sndE a X c _ C h2) (sndE b X c _ C h3) (head_mark (ck_head h3) _)
 | .and a b,X,c,x,C,h=>by
   obtain ⟨o,_,p,rfl,hq1⟩:=onBo_of h
   obtain ⟨y,r,rfl,hq2⟩:=onS_of hq1
   obtain ⟨z,r2,rfl,hq3⟩:=onS_of hq2
   simp only [Bool.and_eq_true] at hq3
   obtain ⟨⟨⟨⟨h0,h1⟩,h2⟩,h3⟩,h4⟩:=hq3
   cases o<;>first | (cases h0;done) | skip
   cases r2 with
   | nil=>exact snd_and h3 h4 (sndE a X c _ C h1) (pe_one (sndE b X c _ C h2))
   | cons w r=>exact snd_and h3 h4 (sndE a X c _ C h1) (sndE b X c _ C h2)
 | .or a b,X,c,x,C,h=>by
   obtain ⟨o,_,p,rfl,hq1⟩:=onBo_of h
   obtain ⟨y,r,rfl,hq2⟩:=onS_of hq1
   obtain ⟨z,r2,rfl,hq3⟩:=onS_of hq2
   simp only [Bool.and_eq_true] at hq3
   obtain ⟨⟨⟨⟨h0,h1⟩,h2⟩,h3⟩,h4⟩:=hq3
   cases o<;>first | (cases h0;done) | skip
   cases r2 with
   | nil=>exact snd_or h3 h4 (sndE a X c _ C h1) (pe_one (sndE b X c _ C h2))
   | cons w r=>exact snd_or h3 h4 (sndE a X c _ C h1) (sndE b X c _ C h2)
 | .not a,X,c,x,C,h=>by
   obtain ⟨o,_,_,rfl,hh⟩:=onUn_of h
   simp only [Bool.and_eq_true] at hh
   obtain rfl:=isNot_of hh.1.1
   exact snd_not hh.2 (sndE a X c _ C hh.1.2)
 | .neg a,X,c,x,C,h=>by
   obtain ⟨o,_,_,rfl,hh⟩:=onUn_of h
   simp only [Bool.and_eq_true] at hh
   obtain rfl:=isNeg_of hh.1.1
   exact snd_neg hh.2 (sndE a X c _ C hh.1.2)
 | .ite t a b,X,c,x,C,h=>by
   obtain ⟨_,_,_,_,rfl,hq1⟩:=onIf_of h
   replace h:=hq1
   · simp only [Bool.and_eq_true] at h
     obtain ⟨⟨⟨⟨h1,h2⟩,h3⟩,h4⟩,h5⟩:=h
     exact snd_ite h4 h5 (sndT t X c _ C h1) (sndE a X c _ C h2) (sndE b X c _ C h3)
 | .tup es,X,c,x,C,h=>by
   obtain ⟨_,_,_,rfl,hq1⟩:=onTup_of h
   replace h:=hq1
   · rw [Bool.and_eq_true] at h
     exact snd_tup h.2 (sndEs es X c _ C h.1 (noPk_ok h.2))
 | .lst es,X,c,x,C,h=>by
   obtain ⟨_,_,rfl,hq1⟩:=onLst_of h
   replace h:=hq1
   · rw [Bool.and_eq_true] at h
     exact snd_lst h.2 (sndEs es X c _ C h.1 (noPk_ok h.2))
 | .ix a b,X,c,x,C,h=>by
   obtain ⟨_,_,_,rfl,hq1⟩:=onSub_of h
   replace h:=hq1
   · simp only [Bool.and_eq_true] at h
     obtain ⟨⟨⟨h1,h2⟩,h3⟩,h4⟩:=h
     exact snd_ix h3 (sndE a X c _ C h1) (sndE b X c _ C h2) (head_ix (ck_head h2))
 | .sl a lo hi,X,c,x,C,h=>by
   obtain ⟨_,_,_,rfl,hh⟩:=onSub_of h
   obtain ⟨_,_,o,_,rfl,h9⟩:=onSl_of hh
   simp only [Bool.and_eq_true] at h9
   obtain ⟨h0,⟨⟨h1,h2⟩,h3⟩,h4⟩:=h9
   obtain rfl:=Option.isNone_iff_eq_none.mp h0
   exact snd_sl (by simpa using h4) (sndE a X c _ C h1) (sndO lo X c _ C h2) (sndO hi X c _ C h3)
 | .call f es,X,c,x,C,h=>(callT C h fun xs h1 h2=>sndEs es X c xs C h1 h2).1
 | .blt f .nil,X,c,x,C,h=>(blt_any C h (fun e y z=>by cases z) fun xs h1 h2=>sndEs .nil X c xs C h1 h2).1
 | .blt f (.cons e .nil),X,c,x,C,h=>(blt_any C h (fun e' y z h1=>by cases z;exact sndE e X c y C h1) fun xs h1 h2=>sndEs (.cons e .nil) X c xs C h1 h2).1
 | .blt f (.cons e (.cons e2 es)),X,c,x,C,h=>(blt_any C h (fun e' y z=>by cases z) fun xs h1 h2=>sndEs (.cons e (.cons e2 es)) X c xs C h1 h2).1
 | .pop i,X,c,x,C,h=>by
   obtain ⟨_,_,_,_,_,rfl,hln,hh⟩:=onM_of h
   obtain ⟨_,_,rfl,h2⟩:=onName_of hh
   obtain ⟨rfl,h3⟩:=on0_of h2
   rw [Bool.and_eq_true] at h3
   have e:=of_decide_eq_true h3.1
   subst e
   obtain ⟨n1,n2,n3,n4⟩:=C.name h3.2
   exact snd_pop n1 n2 n3 n4 hln
 | .bad,X,c,x,C,h=>noE fun δ=>by rw [evE]
 | .comp kk tg src ifs elt,X,c,x,C,h=>by
   obtain ⟨_,_,_,_,rfl,hq1⟩:=onLC_of h
   obtain ⟨_,rfl,hq2⟩:=on1_of hq1
   obtain ⟨_,_,_,rfl,hq3⟩:=onG_of hq2
   replace h:=hq3
   · split at h
     · rename_i ts ht
       simp only [Bool.and_eq_true] at h
       obtain ⟨⟨⟨⟨⟨⟨⟨⟨h1,h2⟩,h3⟩,h4⟩,h5⟩,h6⟩,h7⟩,h8⟩,h9⟩:=h
       have nd:=(names_of' h4).1
       exact snd_comp C h9 (tgNames_len (tg:=tg) (of_decide_eq_true h1)) h2 h3 h4 (fun cl Ca s H fp=>snd_tg (cok_block C h3 nd cl Ca s H fp) h5) (sndI src X c _ _ C h6)
        (fun cl Ca s H fp=>sndG ifs _ _ _ (cok_block C h3 nd cl Ca s H fp) h7) (fun cl Ca s H fp=>sndE elt _ _ _ (cok_block C h3 nd cl Ca s H fp) h8) (fun v=>ckI_set h6 _ v)
     · cases h
theorem sndT:∀ (e:E) (X:Cx) (c:Ck) (x:Expr),Cok X c cx k→ckE c e x = true→PT X x (tT X.K cx e)
 | .var i,X,c,x,C,h=>by
   obtain ⟨_,_,rfl,hq1⟩:=onName_of h
   replace h:=hq1
   · obtain ⟨n1,n2,n3,n4⟩:=C.name h
     exact sndT_var (.inl rfl) n1 n2 n3 n4
 | .pk i,X,c,x,C,h=>by
   obtain ⟨_,_,rfl,hq1⟩:=onName_of h
   replace h:=hq1
   · obtain ⟨n1,n2,n3,n4⟩:=C.name h
     exact sndT_var (.inr rfl) n1 n2 n3 n4
 | .cmp op a b,X,c,x,C,h=>by
   obtain ⟨_,_,_,_,rfl,hq1⟩:=onCmp_of h
   obtain ⟨_,rfl,hq2⟩:=on1_of hq1
   obtain ⟨_,rfl,hq3⟩:=on1_of hq2
   replace h:=hq3
   · simp only [Bool.and_eq_true] at h
     obtain ⟨⟨⟨h1,h2⟩,h3⟩,h4⟩:=h
     exact sndT_cmp C.units h1 h4 (sndE a X c _ C h2) (sndE b X c _ C h3) (head_mark (ck_head h3) _)
 | .and a b,X,c,x,C,h=>by
   obtain ⟨o,_,p,rfl,hq1⟩:=onBo_of h
   obtain ⟨y,r,rfl,hq2⟩:=onS_of hq1
   obtain ⟨z,r2,rfl,hq3⟩:=onS_of hq2
   simp only [Bool.and_eq_true] at hq3
   obtain ⟨⟨⟨⟨h0,h1⟩,h2⟩,h3⟩,h4⟩:=hq3
   cases o<;>first | (cases h0;done) | skip
   cases r2 with
   | nil=>exact sndT_and (sndT a X c _ C h1) (pw_and1 (sndT b X c _ C h2))
   | cons w r=>exact sndT_and (sndT a X c _ C h1) (PT.pw (sndT b X c _ C h2))
 | .or a b,X,c,x,C,h=>by
   obtain ⟨o,_,p,rfl,hq1⟩:=onBo_of h
   obtain ⟨y,r,rfl,hq2⟩:=onS_of hq1
   obtain ⟨z,r2,rfl,hq3⟩:=onS_of hq2
   simp only [Bool.and_eq_true] at hq3
   obtain ⟨⟨⟨⟨h0,h1⟩,h2⟩,h3⟩,h4⟩:=hq3
   cases o<;>first | (cases h0;done) | skip
   cases r2 with
   | nil=>exact sndT_or (sndT a X c _ C h1) (pw_or1 (sndT b X c _ C h2))
   | cons w r=>exact sndT_or (sndT a X c _ C h1) (PT.pw (sndT b X c _ C h2))
 | .not a,X,c,x,C,h=>by
   obtain ⟨o,_,_,rfl,hh⟩:=onUn_of h
   simp only [Bool.and_eq_true] at hh
   obtain rfl:=isNot_of hh.1.1
   exact sndT_not (sndT a X c _ C hh.1.2)
 | .call f es,X,c,x,C,h=>sndT_of (es:=es) (f:=cx.call f) (callT C h fun xs h1 h2=>sndEs es X c xs C h1 h2).1 (callT C h fun xs h1 h2=>sndEs es X c xs C h1 h2).2 rfl (fun δ=>by rw [evE]) fun δ=>by rw [evT]
 | .blt f .nil,X,c,x,C,h=>sndT_of (es:=.nil) (f:=bltD f) (blt_any C h (fun e y z=>by cases z) fun xs h1 h2=>sndEs .nil X c xs C h1 h2).1 (blt_any C h (fun e y z=>by cases z) fun xs h1 h2=>sndEs .nil X c xs C h1 h2).2 rfl (fun δ=>by rw [evE]) fun δ=>by rw [evT]
 | .blt f (.cons e .nil),X,c,x,C,h=>sndT_of (es:=.cons e .nil) (f:=bltD f) (blt_any C h (fun e' y z h1=>by cases z;exact sndE e X c y C h1) fun xs h1 h2=>sndEs (.cons e .nil) X c xs C h1 h2).1 (blt_any C h (fun e' y z h1=>by cases z;exact sndE e X c y C h1) fun xs h1 h2=>sndEs (.cons e .nil) X c xs C h1 h2).2 rfl (fun δ=>by rw [evE]) fun δ=>by rw [evT]
 | .blt f (.cons e (.cons e2 es)),X,c,x,C,h=>sndT_of (es:=.cons e (.cons e2 es)) (f:=bltD f) (blt_any C h (fun e' y z=>by cases z) fun xs h1 h2=>sndEs (.cons e (.cons e2 es)) X c xs C h1 h2).1 (blt_any C h (fun e' y z=>by cases z) fun xs h1 h2=>sndEs (.cons e (.cons e2 es)) X c xs C h1 h2).2 rfl (fun δ=>by rw [evE]) fun δ=>by rw [evT]
 | .glob _,X,c,x,C,h=>noT fun δ=>by rw [evT]<;>intros<;>simp_all
 | .int _,X,c,x,C,h=>noT fun δ=>by rw [evT]<;>intros<;>simp_all
 | .bl _,X,c,x,C,h=>noT fun δ=>by rw [evT]<;>intros<;>simp_all
 | .non,X,c,x,C,h=>noT fun δ=>by rw [evT]<;>intros<;>simp_all
 | .str _,X,c,x,C,h=>noT fun δ=>by rw [evT]<;>intros<;>simp_all
 | .neg _,X,c,x,C,h=>noT fun δ=>by rw [evT]<;>intros<;>simp_all
 | .bin ..,X,c,x,C,h=>noT fun δ=>by rw [evT]<;>intros<;>simp_all
 | .ite ..,X,c,x,C,h=>noT fun δ=>by rw [evT]<;>intros<;>simp_all
 | .tup _,X,c,x,C,h=>noT fun δ=>by rw [evT]<;>intros<;>simp_all
 | .lst _,X,c,x,C,h=>noT fun δ=>by rw [evT]<;>intros<;>simp_all
 | .ix ..,X,c,x,C,h=>noT fun δ=>by rw [evT]<;>intros<;>simp_all
 | .sl ..,X,c,x,C,h=>noT fun δ=>by rw [evT]<;>intros<;>simp_all
 | .pop _,X,c,x,C,h=>noT fun δ=>by rw [evT]<;>intros<;>simp_all
 | .bad,X,c,x,C,h=>noT fun δ=>by rw [evT]<;>intros<;>simp_all
 | .comp ..,X,c,x,C,h=>noT fun δ=>by rw [evT]<;>intros<;>simp_all
theorem sndEs:∀ (es:Es) (X:Cx) (c:Ck) (xs:List Expr),Cok X c cx k→ckEs c es xs = true→okEs es = true→PA X xs (tEs X.K cx es)
 | .nil,X,c,xs,C,h,_=>by
   obtain ⟨rfl,hq1⟩:=on0_of h
   replace h:=hq1
   · exact snd_nil
 | .cons e es,X,c,xs,C,h,ho=>by
   obtain ⟨_,_,rfl,hq1⟩:=onS_of h
   replace h:=hq1
   · rw [Bool.and_eq_true] at h
     have ho':((!isPk e || npS es) && okEs es) = true:=ho
     rw [Bool.and_eq_true] at ho'
     exact snd_cons ho'.1 (sndE e X c _ C h.1) (sndEs es X c _ C h.2 ho'.2) (head_star (ck_head h.1) _ _)
theorem sndO:∀ (o:Eo) (X:Cx) (c:Ck) (l:Option Expr),Cok X c cx k→ckO c o l = true→PO X l (tO X.K cx o)
 | .no,X,c,l,C,h=>by
   obtain rfl:=Option.isNone_iff_eq_none.mp h
   exact snd_o (fun e z=>by cases z) fun _=>rfl
 | .yes e,X,c,l,C,h=>by
   obtain ⟨_,rfl,hq1⟩:=onO_of h
   replace h:=hq1
   · rw [Bool.and_eq_true] at h
     have q:=sndE e X c _ C h.1
     exact snd_o (fun e' z=>by cases z;exact ⟨_,rfl,h.2,q⟩) fun z=>by cases z
theorem sndG:∀ (o:Eo) (X:Cx) (c:Ck) (l:List Expr),Cok X c cx k→ckG c o l = true→PTs X l (tG X.K cx o)
 | .no,X,c,l,C,h=>by
   obtain ⟨rfl,hq1⟩:=on0_of h
   replace h:=hq1
   · intro pins s σ H Q I q
     obtain ⟨G,F,δ,b,δ',ok,ev,post⟩:=q
     simp only [evG] at ev
     cases ev
     exact pts_nil pins s σ H Q I (post H F Step.refl (fun _=>Sim.refl H) ok)
 | .yes e,X,c,l,C,h=>by
   obtain ⟨_,rfl,hq1⟩:=on1_of h
   replace h:=hq1
   · have q:=pts_one (sndT e X c _ C h)
     intro pins s σ H Q I z
     obtain ⟨G,F,δ,b,δ',ok,ev,post⟩:=z
     simp only [evG] at ev
     exact q pins s σ H Q I ⟨G,F,δ,b,δ',ok,ev,post⟩
theorem sndI:∀ (t:It) (X:Cx) (c:Ck) (x tg:Expr),Cok X c cx k→ckI c t x = true→PI X tg x (tI X.K cx t)
 | .rng e,X,c,x,tg,C,h=>by
   obtain ⟨_,_,_,_,rfl,hq1⟩:=onCN_of h
   obtain ⟨_,rfl,hq2⟩:=on1_of hq1
   replace h:=hq2
   · simp only [Bool.and_eq_true] at h
     obtain ⟨⟨⟨h1,h2⟩,h3⟩,h4⟩:=h
     have z:=of_decide_eq_true h1
     subst z
     exact snd_rng h4 (C.global h2).1 (C.blt _ (by decide +kernel)) (sndE e X c _ C h3) (head_star (ck_head h3) _ _)
 | .rng2 a b,X,c,x,tg,C,h=>by
   obtain ⟨_,_,_,_,rfl,hq1⟩:=onCN_of h
   obtain ⟨_,_,rfl,hq2⟩:=on2_of hq1
   replace h:=hq2
   · simp only [Bool.and_eq_true] at h
     obtain ⟨⟨⟨⟨⟨h1,h2⟩,h3⟩,h4⟩,h5⟩,h6⟩:=h
     have z:=of_decide_eq_true h1
     subst z
     exact snd_rng2 h5 h6 (C.global h2).1 (C.blt _ (by decide +kernel)) (sndE a X c _ C h3) (sndE b X c _ C h4) (by rw [head_star (ck_head h3),head_star (ck_head h4)];rfl) (by rw [head_star (ck_head h4)];rfl)
 | .sq e,X,c,x,tg,C,h=>by
   have h:(ckE c e x && !isPk e) = true:=h
   rw [Bool.and_eq_true] at h
   exact snd_sq h.2 (sndE e X c x C h.1)
end
end
end PP
end
section
namespace PP
open PySem L2 PyProof.Rows
variable [Tbs]
def PostS (K:PySem.W.Frag) (G:Gh) (F:Addr→Prop) (H:Hp) (o:Out) (E:Ends):Prop:=match o with
 | .nx δ'=>∀ σ' H' F',Step G F H F' H'→Ok K G F' σ' H' δ'→E.nx σ' H'
 | .rt d δ'=>∀ v σ' H' F',Step G F H F' H'→Ok K G F' σ' H' δ'→Rel K H' F' d v→E.rt v H'
 | .bk δ'=>∀ σ' H' F',Step G F H F' H'→Ok K G F' σ' H' δ'→E.bk σ' H'
 | .ct δ'=>∀ σ' H' F',Step G F H F' H'→Ok K G F' σ' H' δ'→E.ct σ' H'
 | .ro d δ'=>∀ a u σ' H' F',Step G F H F' H'→Ok K G F' σ' H' δ'→F' a→G.free a→H' a = some u→RelO K H' F' d u→E.rt (.ref a) H'
def tS (K:PySem.W.Frag) (ev:Loc→Option Out):TS:=fun E σ H=>∃ G F δ o,Ok K G F σ H δ∧ev δ = some o∧PostS K G F H o E
theorem PostS.step {K:PySem.W.Frag} {G:Gh} {F F1:Addr→Prop} {H H1:Hp} {o:Out} {E:Ends} (st:Step G F H F1 H1) (h:PostS K G F H o E):PostS K G F1 H1 o E:=by
 cases o with
 | nx δ=>exact fun σ' H' F' s k=>h σ' H' F' (st.trans s) k
 | rt d δ=>exact fun v σ' H' F' s k r=>h v σ' H' F' (st.trans s) k r
 | bk δ=>exact fun σ' H' F' s k=>h σ' H' F' (st.trans s) k
 | ct δ=>exact fun σ' H' F' s k=>h σ' H' F' (st.trans s) k
 | ro ds δ=>exact fun a xs σ' H' F' s k=>h a xs σ' H' F' (st.trans s) k
section
variable {X:Cx} {c:Ck} {cx:Cl} {k:Nat}
theorem PS.imp {s:Stmt} {t t':TS} (h:PS X s t) (w:∀ E σ H,t' E σ H→t E σ H):PS X s t':=fun pins s σ H E I q=>h pins s σ H E I (w E σ H q)
theorem PSs.imp {s:List Stmt} {t t':TS} (h:PSs X s t) (w:∀ E σ H,t' E σ H→t E σ H):PSs X s t':=fun pins s σ H E I q=>h pins s σ H E I (w E σ H q)
theorem sndS_nil:PSs X [] (tS X.K (evSs cx .nil)):=PSs.imp pss_nil fun E σ H ⟨G,F,δ,o,ok,ev,post⟩=>by
 simp only [evSs] at ev
 cases ev
 exact post σ H F Step.refl ok
theorem sndS_cons {s:S} {ss:Ss} {y:Stmt} {ys:List Stmt} (h1:PS X y (tS X.K (evS cx s))) (h2:PSs X ys (tS X.K (evSs cx ss))):PSs X (y::ys) (tS X.K (evSs cx (.cons s ss))):=PSs.imp (pss_cons h1 h2) fun E σ H ⟨G,F,δ,o,ok,ev,post⟩=>by
 simp only [evSs] at ev
 cases e:evS cx s δ with
 | none=>rw [e] at ev;cases ev
 | some o1 =>
   rw [e] at ev
   cases o1 with
   | nx δ1=>exact ⟨G,F,δ,.nx δ1,ok,e,fun σ' H' F' st ok'=>⟨G,F',δ1,o,ok',ev,post.step st⟩⟩
   | rt d δ1=>cases ev;exact ⟨G,F,δ,_,ok,e,post⟩
   | bk δ1=>cases ev;exact ⟨G,F,δ,_,ok,e,post⟩
   | ct δ1=>cases ev;exact ⟨G,F,δ,_,ok,e,post⟩
   | ro d δ1=>cases ev;exact ⟨G,F,δ,_,ok,e,post⟩
theorem asg_ev {tg:Tg} {e:E} {δ:Loc} {o:Out} (ev:evS cx (.asg tg e) δ = some o):∃ d δ1 δ2,evE cx e δ = some (d,δ1)∧setTg δ1 tg d = some δ2∧o = .nx δ2:=by
 simp only [evS,Option.bind_eq_bind,Option.bind_eq_some_iff] at ev
 obtain ⟨⟨d,δ1⟩,e1,δ2,e2,e3⟩:=ev
 cases e3
 exact ⟨d,δ1,δ2,e1,e2,rfl⟩
theorem asg_of {tg:Tg} {e:E} (n:(!isPk e) = true) {E:Ends} {σ:L2.St} {H:Hp} (h:tS X.K (evS cx (.asg tg e)) E σ H):tAsg (tE X.K cx e) (gTg X.K tg) E σ H:=by
 obtain ⟨G,F,δ,o,ok,ev,post⟩:=h
 obtain ⟨d,δ1,δ2,e1,e2,rfl⟩:=asg_ev ev
 exact ⟨G,F,δ,d,δ1,ok,e1,fun v H1 F1 st sm ok1 r=>tg_read ok1 (rel_of n r) e2 fun σ' ok2 _=>post σ' H1 F1 st ok2⟩
theorem sndS_asg (C:Cok X c cx k) {tg:Tg} {e:E} {t y:Expr} {pos:Pos} (hm:(isNm t || !isTp y) = true) (h:ckTg c tg t = true) (hy:ckE c e y = true) (n:(!isPk e) = true) (nc:(!isComp y) = true) (he:PE X y (tE X.K cx e)):PS X (.Assign [t] y pos) (tS X.K (evS cx (.asg tg e))):=by
 have hh:=ck_head hy
 have nc':isComp y = false:=by simpa using nc
 have hs:swapsWithSole [t] y pos.line X.env = pure false:=head_swaps hh nc' _ _ _
 have hw:swappedStores [t] y X.env = pure none:=by
  rcases tg_shape h with ⟨_,_,rfl⟩ | ⟨_,_,_,rfl⟩
  · cases y<;>first | rfl | (exact absurd hh Bool.false_ne_true)
  · cases y<;>first | rfl | (exact absurd hm Bool.false_ne_true) | (exact absurd hh Bool.false_ne_true)
 have h1:(assignEach [t] X.env).map (·.2) = [assign t X.env]:=by
  rcases tg_shape h with ⟨_,_,rfl⟩ | ⟨_,_,_,rfl⟩<;>rfl
 exact PS.imp (ps_asg he (snd_tg C h) hs hw h1) fun E σ H h=>asg_of n h
def tN (K:PySem.W.Frag) (cx:Cl) (e:E):TE:=fun σ H Q=>∃ G F δ ds δ',Ok K G F σ H δ∧evE cx e δ = some (.lst ds,δ') ∧
 ∀ p xs H1 F1,Step G F H F1 H1→Ok K G F1 σ H1 δ'→H1 p = none→RelL K H1 F1 ds xs→Q (.ref p) (upd H1 p (.lst xs))
theorem own_new {K:PySem.W.Frag} {G:Gh} {F1:Addr→Prop} {σ:L2.St} {H1:Hp} {δ1:Loc} {i:Nat} {p:Addr} {ds:List D} {xs:List V} (ok1:Ok K G F1 σ H1 δ1) (hp:H1 p = none) (rl:RelL K H1 F1 ds xs) (hi:i < δ1.length) :
 Ok K G (fun b=>F1 b∨b = p) (σ.set i (some (.ref p))) (upd H1 p (.lst xs)) (δ1.set i (.own ds))∧Step G F1 H1 (fun b=>F1 b∨b = p) (upd H1 p (.lst xs)):=by
 obtain ⟨o1,o2⟩:=ok1.enter hp xs
 refine ⟨(o1.keep).own hi (.inr rfl) (ok1.free hp) upd_same (RelL.step ok1.fd o2 ds xs rl) fun j s e ho z=>?_,o2⟩
 obtain ⟨a,u,d,e1,_,_,e2,_⟩:=SlOk.ow (ok1.sl j _ e) ho
 rw [z] at e1
 cases e1
 rw [hp] at e2
 cases e2
theorem sndS_new (C:Cok X c cx k) {i:Nat} {e:E} {t:Str} {y:Expr} {pos p2:Pos} (h:nameTo c i t = true) (hy:ckE c e y = true) (nc:(!isComp y) = true) (he:PE X y (tN X.K cx e)):PS X (.Assign [.Name t p2] y pos) (tS X.K (evS cx (.new i e))):=by
 obtain ⟨n1,n2,n3⟩:=C.to h
 have nc':isComp y = false:=by simpa using nc
 refine PS.imp (ps_set C.nd' n1 n2 he (head_swaps (ck_head hy) nc' _ _ _) n3) fun E σ H ⟨G,F,δ,o,ok,ev,post⟩=>?_
 simp only [evS,Option.bind_eq_bind,Option.bind_eq_some_iff] at ev
 obtain ⟨⟨d,δ1⟩,e1,ev⟩:=ev
 cases d with
 | lst ds =>
   dsimp only at ev
   split at ev
   · cases ev
     refine ⟨G,F,δ,ds,δ1,ok,e1,fun p xs H1 F1 st ok1 hp rl=>?_⟩
     obtain ⟨o1,o2⟩:=own_new ok1 hp rl ‹_›
     exact post _ _ _ (st.trans o2) o1
   · cases ev
 | _=>cases ev
theorem sndN_lst {es:Es} {xs:List Expr} {pos:Pos} (n:noPk es = true) (h:PA X xs (tEs X.K cx es)):PE X (.List xs pos) (tN X.K cx (.lst es)):=by
 refine PE.imp (pe_lst h) fun σ H Q h=>?_
 obtain ⟨G,F,δ,d,δ',ok,ev,post⟩:=h
 simp only [evE,Option.bind_eq_bind,Option.bind_eq_some_iff] at ev
 obtain ⟨⟨ds,δ1⟩,ea,ev⟩:=ev
 split at ev
 · rename_i hz
   cases ev
   refine ⟨G,F,δ,ds,δ1,ok,ea,fun vs H1 F1 st1 sm1 ok1 r1=>?_⟩
   have r:=r1.rl n
   exact ⟨by rw [r.length];exact hz,fun p hp=>post p vs H1 F1 st1 ok1 hp r⟩
 · cases ev
theorem sndN_list (C:Cok X c cx k) {es:Es} {p pos:Pos} {y:Expr} {ys:List Expr} (hg:globIs c (bltNm .toLst) = true) (hA:PA X (y::ys) (tEs X.K cx es)) (h:ckEs c es (y::ys) = true):PE X (.Call (.Name (bltNm .toLst) p) (y::ys) [] pos) (tN X.K cx (.blt .toLst es)):=by
 obtain ⟨g1,g2,g3⟩:=C.global hg
 obtain ⟨e,es',rfl,h1,h2⟩:=ckEs_cons h
 have he:=head_star (ck_head h1) ys X.env
 have hpl:=star_any (env:=X.env) (pos:=pos) h2
 refine PE.imp (pe_callTy call_list_of g1 (C.blt _ (by decide +kernel)) rfl hA g3 g2 he hpl) fun σ H Q h=>?_
 obtain ⟨G,F,δ,ds,δ',ok,ev,post⟩:=h
 simp only [evE] at ev
 obtain ⟨zs,ea,hd⟩:=es_ev ev
 refine ⟨G,F,δ,zs,δ',ok,ea,fun vs H1 F1 st1 sm1 ok1 r1=>?_⟩
 have r:=r1.bl
 change toLstD zs = some (D.lst ds) at hd
 unfold toLstD at hd
 split at hd
 · cases hd
   obtain ⟨v,rfl,r9⟩:=b1 r
   obtain ⟨a,ws,rfl,h1,h2⟩:=r9.lst
   exact ⟨a,ws,rfl,.inl h1.sq,fun l hl=>post l ws H1 F1 st1 ok1 hl h2⟩
 · cases hd
   obtain ⟨v,rfl,r9⟩:=b1 r
   obtain ⟨a,ws,rfl,h1,h2⟩:=r9.tup
   exact ⟨a,ws,rfl,.inr h1,fun l hl=>post l ws H1 F1 st1 ok1 hl h2⟩
 · cases hd
theorem sndN_sl {a:E} {lo hi:Eo} {y:Expr} {l h:Option Expr} {pos p2:Pos} (pc:(!isPk a || (npO lo && npO hi)) = true) (ha:PE X y (tE X.K cx a)) (hl:PO X l (tO X.K cx lo)) (hh:PO X h (tO X.K cx hi)):PE X (.Subscript y (.Slice l h none p2) pos) (tN X.K cx (.sl a lo hi)):=by
 refine PE.imp (pe_slice sl_list ha hl hh) fun σ H Q h=>?_
 obtain ⟨G,F,δ,ds,δ',ok,ev,post⟩:=h
 simp only [evE,Option.bind_eq_bind,Option.bind_eq_some_iff] at ev
 obtain ⟨⟨x,δ1⟩,ea,⟨l',δ2⟩,eb,⟨h',δ3⟩,ec,d',hd,e⟩:=ev
 cases e
 dsimp only at eb ec hd post
 refine ⟨G,F,δ,x,δ1,ok,ea,fun v H1 F1 st1 sm1 ok1 r1=>⟨G,F1,δ1,l',δ2,ok1,eb,fun H2 F2 st2 sm2 ok2=>⟨G,F2,δ2,h',δ3,ok2,ec,fun H3 F3 st3 sm3 ok3=>?_⟩⟩⟩
 have st:=st2.trans st3
 have rb:RelB X.K H3 F3 x v:=by
  refine (RelM.step ok1.fd st (fun z=>?_) r1).b
  rw [z] at pc
  have pc':(npO lo && npO hi) = true:=by simpa using pc
  rw [Bool.and_eq_true] at pc'
  exact (sm2 pc'.1).trans (sm3 pc'.2)
 unfold slD at hd
 split at hd
 · cases hd
   obtain ⟨p,xs,e1,h1,h2⟩:=rb.lst
   exact ⟨p,xs,e1,h1.sq,fun q hq=>post q _ H3 F3 (st1.trans st) ok3 hq (h2.cut l' h')⟩
 · split at hd
   · cases hd
   · cases hd
 · cases hd
end
end PP
end
section
namespace PP
open PySem L2 PyProof.Rows
variable [Tbs]
section
variable {X:Cx} {c:Ck} {cx:Cl} {k:Nat}
theorem sndS_ret {e:E} {y:Expr} {pos:Pos} (n:(!isPk e) = true) (he:PE X y (tE X.K cx e)):PS X (.Return (some y) pos) (tS X.K (evS cx (.ret e))):=PS.imp (ps_ret he) fun E σ H ⟨G,F,δ,out,ok,ev,post⟩=>by
 simp only [evS,Option.bind_eq_bind,Option.bind_eq_some_iff] at ev
 obtain ⟨⟨d,δ1⟩,e1,ev⟩:=ev
 cases ev
 exact ⟨G,F,δ,d,δ1,ok,e1,fun v H1 F1 st sm ok1 r=>post v σ H1 F1 st ok1 (rel_of n r)⟩
theorem sndS_retN {pos:Pos}:PS X (.Return none pos) (tS X.K (evS cx .retN)):=PS.imp ps_retN fun E σ H ⟨G,F,δ,out,ok,ev,post⟩=>by
 simp only [evS] at ev
 cases ev
 exact post .non σ H F Step.refl ok rel_non
theorem sndS_ifs {t:E} {a b:Ss} {y:Expr} {ya yb:List Stmt} {pos:Pos} (ht:PT X y (tT X.K cx t)) (ha:PSs X ya (tS X.K (evSs cx a))) (hb:PSs X yb (tS X.K (evSs cx b))):PS X (.If y ya yb pos) (tS X.K (evS cx (.ifs t a b))):=PS.imp (ps_if ht ha hb) fun E σ H ⟨G,F,δ,out,ok,ev,post⟩=>by
 simp only [evS,Option.bind_eq_bind,Option.bind_eq_some_iff] at ev
 obtain ⟨⟨q,δ1⟩,e1,ev⟩:=ev
 refine ⟨G,F,δ,q,δ1,ok,e1,fun H1 F1 st sm ok1=>?_⟩
 cases q with
 | true=>exact iteT ⟨G,F1,δ1,out,ok1,ev,post.step st⟩
 | false=>exact iteF ⟨G,F1,δ1,out,ok1,ev,post.step st⟩
theorem sndS_pass {pos:Pos}:PS X (.Pass pos) (tS X.K (evS cx .pass)):=PS.imp ps_pass fun E σ H ⟨G,F,δ,out,ok,ev,post⟩=>by
 simp only [evS] at ev
 cases ev
 exact post σ H F Step.refl ok
theorem sndS_brk {pos:Pos}:PS X (.Break pos) (tS X.K (evS cx .brk)):=PS.imp ps_break fun E σ H ⟨G,F,δ,out,ok,ev,post⟩=>by
 simp only [evS] at ev
 cases ev
 exact post σ H F Step.refl ok
theorem sndS_cont {pos:Pos}:PS X (.Continue pos) (tS X.K (evS cx .cont)):=PS.imp ps_continue fun E σ H ⟨G,F,δ,out,ok,ev,post⟩=>by
 simp only [evS] at ev
 cases ev
 exact post σ H F Step.refl ok
theorem sndS_for (C:Cok X c cx k) {tg:Tg} {src:It} {body:Ss} {t it:Expr} {ys:List Stmt} {pos:Pos} (htg:ckTg c tg t = true) (hI:PI X t it (tI X.K cx src)) (hset:∀ v,foldedSetIterable it X.env v = pure v) (hb:PSs X ys (tS X.K (evSs cx body))):PS X (.For t it ys [] pos) (tS X.K (evS cx (.for_ tg src body))):=by
 have hp:PassesOwn (model X.prog X.w) X.A X.env X.xe:=by rw [C.xe];exact PassesOwn.never
 refine PS.imp (ps_for hp C.calm hI (snd_tg C htg) hb hset) fun E σ H ⟨G,F,δ,out,ok,ev,post⟩=>?_
 simp only [evS,Option.bind_eq_bind,Option.bind_eq_some_iff] at ev
 obtain ⟨⟨ds,δ1⟩,e1,ev⟩:=ev
 dsimp only at ev
 generalize ef:(fun (x:D) (δ0:Loc)=>match setTg δ0 tg x with | some δ2=>evSs cx body δ2 | none=>none) = f at ev
 refine ⟨G,F,δ,ds,δ1,ok,e1,fun J H1 F1 st sm ok1 wk=>?_⟩
 refine ⟨fun i m σ' H'=>∃ F' δ',m = ds.length - i∧i≤ds.length∧Step G F1 H1 F' H'∧Ok X.K G F' σ' H' δ'∧forL f (ds.drop i) δ' = some out,⟨_,F1,δ1,rfl,Nat.zero_le _,Step.refl,ok1,ev⟩,?_⟩
 rintro i m σ' H' ⟨F',δ',rfl,hi,st',ok',ev'⟩
 by_cases hlt:i < ds.length
 · right
   obtain ⟨d,hd⟩:∃ d,ds[i]? = some d:=⟨ds[i],by simp [hlt]⟩
   obtain ⟨go,yl⟩:=(wk _ F' H' st' ok'.fd i).1 d hd
   refine ⟨go,?_⟩
   have edr:ds.drop i = d::ds.drop (i+1):=by
    rw [List.drop_eq_getElem_cons hlt]
    congr 1
    rw [List.getElem?_eq_getElem hlt] at hd
    exact Option.some.inj hd
   rw [edr] at ev'
   unfold forL at ev'
   refine ⟨fun σ2 H2=>∃ m',m' < ds.length - i∧∃ F2 δ2,m' = ds.length - (i+1)∧i+1≤ds.length∧Step G F1 H1 F2 H2∧Ok X.K G F2 σ2 H2 δ2∧forL f (ds.drop (i+1)) δ2 = some out,fun σ2 H2 z=>z,fun x H3 hy=>?_⟩
   obtain ⟨e3,rx⟩:=yl x H3 hy
   subst e3
   cases hf:f d δ' with
   | none=>rw [hf] at ev';cases ev'
   | some o1 =>
     have hf':=hf
     rw [← ef] at hf'
     dsimp only at hf'
     cases hs:setTg δ' tg d with
     | none=>rw [hs] at hf';cases hf'
     | some δ2 =>
       rw [hs] at hf'
       refine tg_read ok' rx hs fun σ2 ok2 _=>⟨G,F',δ2,o1,ok2,hf',?_⟩
       rw [hf] at ev'
       cases o1 with
       | nx δ3=>exact fun σ3 H4 F4 s4 k4=>⟨_,by omega,F4,δ3,rfl,hlt,st'.trans s4,k4,ev'⟩
       | ct δ3=>exact fun σ3 H4 F4 s4 k4=>⟨_,by omega,F4,δ3,rfl,hlt,st'.trans s4,k4,ev'⟩
       | bk δ3 =>
         cases ev'
         exact fun σ3 H4 F4 s4 k4=>post σ3 H4 F4 ((st.trans st').trans s4) k4
       | rt d3 δ3 =>
         cases ev'
         exact fun v σ3 H4 F4 s4 k4 r4=>post v σ3 H4 F4 ((st.trans st').trans s4) k4 r4
       | ro d3 δ3 =>
         cases ev'
         exact fun a xs σ3 H4 F4 s4 k4=>post a xs σ3 H4 F4 ((st.trans st').trans s4) k4
 · left
   have hi':i = ds.length:=by omega
   subst hi'
   refine ⟨(wk _ F' H' st' ok'.fd ds.length).2 rfl,?_⟩
   rw [List.drop_length] at ev'
   cases ev'
   exact post σ' H' F' (st.trans st') ok'
theorem sndS_while (C:Cok X c cx k) {t:E} {body:Ss} {y:Expr} {ys:List Stmt} {pos:Pos} (ht:PT X y (tT X.K cx t)) (hb:PSs X ys (tS X.K (evSs cx body))):PS X (.While y ys [] pos) (tS X.K (evS cx (.while_ t body))):=by
 have hp:PassesOwn (model X.prog X.w) X.A X.env X.xe:=by rw [C.xe];exact PassesOwn.never
 refine PS.imp (ps_while hp ht hb) fun E σ H ⟨G,F,δ,out,ok,ev,post⟩=>?_
 simp only [evS] at ev
 refine ⟨fun m σ' H'=>∃ F' δ',Step G F H F' H'∧Ok X.K G F' σ' H' δ'∧whileL (fun δ0=>evT cx t δ0) (fun δ0=>evSs cx body δ0) m δ' = some out,⟨1000,F,δ,Step.refl,ok,ev⟩,?_⟩
 rintro m σ' H' ⟨F',δ',st',ok',ev'⟩
 cases m with
 | zero=>cases ev'
 | succ m =>
   unfold whileL at ev'
   cases ec:evT cx t δ' with
   | none=>rw [ec] at ev';cases ev'
   | some q =>
     obtain ⟨b,δ1⟩:=q
     rw [ec] at ev'
     refine ⟨G,F',δ',b,δ1,ok',ec,fun H1 F1 st1 sm1 ok1=>?_⟩
     have sA:=st'.trans st1
     cases b with
     | true =>
       refine iteT ?_
       dsimp only at ev'
       refine ⟨fun σ2 H2=>∃ m',m' < m+1∧∃ F2 δ2,Step G F H F2 H2∧Ok X.K G F2 σ2 H2 δ2∧whileL (fun δ0=>evT cx t δ0) (fun δ0=>evSs cx body δ0) m' δ2 = some out,fun σ2 H2 z=>z,?_⟩
       cases hf:evSs cx body δ1 with
       | none=>rw [hf] at ev';cases ev'
       | some o1 =>
         rw [hf] at ev'
         refine ⟨G,F1,δ1,o1,ok1,hf,?_⟩
         cases o1 with
         | nx δ3=>exact fun σ3 H4 F4 s4 k4=>⟨m,by omega,F4,δ3,sA.trans s4,k4,ev'⟩
         | ct δ3=>exact fun σ3 H4 F4 s4 k4=>⟨m,by omega,F4,δ3,sA.trans s4,k4,ev'⟩
         | bk δ3 =>
           cases ev'
           exact fun σ3 H4 F4 s4 k4=>post σ3 H4 F4 (sA.trans s4) k4
         | rt d3 δ3 =>
           cases ev'
           exact fun v σ3 H4 F4 s4 k4 r4=>post v σ3 H4 F4 (sA.trans s4) k4 r4
         | ro d3 δ3 =>
           cases ev'
           exact fun a xs σ3 H4 F4 s4 k4=>post a xs σ3 H4 F4 (sA.trans s4) k4
     | false =>
       refine iteF ?_
       cases ev'
       exact post σ' H1 F1 sA ok1
end
end PP
end
section
namespace PP
open PySem PySem.Spec PyProof.Rows
open Builtin.SmallTypes (nextOf)
section
variable {P:Program} {w:World} {A:Around} {E:Value→Shared→Prop} {s:Shared}
theorem nextT_item {i l:Addr} {k:Nat} {xs:List Value} {x:Value} {Q:Value→Shared→Prop} (hit:s.heap.IsTupleIter i l k) (ht:s.heap.IsTuple l xs.toArray) (hx:xs[k]? = some x) (q:∀ h',h'.IsTupleIter i l (k+1)→Heap.SameBut i s.heap h'→Q x { s with heap:=h' }):wpAny (model P w) A (nextOf (.ref i)) Q E s:=by
 obtain ⟨o,ho,hc,hd⟩:=id hit
 obtain ⟨ol,hol,_,nl,hdl⟩:=ht
 have hx':xs.toArray[k]? = some x:=by simpa using hx
 unfold nextOf
 refine wpAny_bind (wpAny_callSpecial?_slot (name:=Str.ofString "__next__") hit.typeIs PySem.F.slot_tuple_iterator_next (wpAny_call_entry PySem.F.slot_tuple_iterator_next hit.typeIs PySem.F.entry_tuple_iterator_next ?_ (PySem.F.args_tuple_iterator_next_1 _)))
 refine wpAny_bind (m:=field (.ref i) 0) (wpAny_field ho hd (x:=.ref l) rfl ?_)
 refine (if_neg (show ¬ ((Value.ref l == Value.none) = true) from Bool.false_ne_true))▸?_
 refine wpAny_bind (m:=field (.ref i) 1) (wpAny_field ho hd (x:=.int k 0) rfl ?_)
 refine wpAny_bind (m:=seqItems? (.ref l)) (wpAny_seqItems hol hdl ?_)
 simp only [Int.toNat_natCast,hx']
 have sb:=Heap.SameBut.update s.heap i (Obj.mapFields (·.setIfInBounds 1 (rawInt ((k:Int)+1))))
 refine wpAny_bind (wpAny_setField ho hd (by simp) (wpAny_pure ⟨x,rfl,wpAny_pure (q _ ⟨_,Heap.get?_update_self _ ho (Obj.isFreed_of_fields (Obj.data_mapFields hd _)),(Obj.cls_mapFields ..).trans hc,?_⟩ sb)⟩))
 rw [Obj.data_mapFields hd]
 simp [rawInt]
theorem nextT_end {i l:Addr} {k:Nat} {xs:List Value} {Q:Value→Shared→Prop} (hh:A.handled = none) (hit:s.heap.IsTupleIter i l k) (ht:s.heap.IsTuple l xs.toArray) (hx:xs[k]? = none)
 (q:∀ h' e,Heap.ExtBut i s.heap h'→(∃ o,h'.get? e = some o∧o.cls = .type "StopIteration")→E (.ref e) { s with heap:=h' }):wpAny (model P w) A (nextOf (.ref i)) Q E s:=by
 obtain ⟨o,ho,hc,hd⟩:=id hit
 obtain ⟨ol,hol,_,nl,hdl⟩:=ht
 have hx':xs.toArray[k]? = none:=by simpa using hx
 unfold nextOf
 refine wpAny_bind (wpAny_callSpecial?_slot (name:=Str.ofString "__next__") hit.typeIs PySem.F.slot_tuple_iterator_next (wpAny_call_entry PySem.F.slot_tuple_iterator_next hit.typeIs PySem.F.entry_tuple_iterator_next ?_ (PySem.F.args_tuple_iterator_next_1 _)))
 refine wpAny_bind (m:=field (.ref i) 0) (wpAny_field ho hd (x:=.ref l) rfl ?_)
 refine (if_neg (show ¬ ((Value.ref l == Value.none) = true) from Bool.false_ne_true))▸?_
 refine wpAny_bind (m:=field (.ref i) 1) (wpAny_field ho hd (x:=.int k 0) rfl ?_)
 refine wpAny_bind (m:=seqItems? (.ref l)) (wpAny_seqItems hol hdl ?_)
 simp only [Int.toNat_natCast,hx']
 refine wpAny_bind (wpAny_rule (wpAny_bind (wpAny_setField ho hd (by simp) (wpAny_bind (m:=newExc (.type "StopIteration") []) ?_))))
 simp only [newExc,newTuple]
 refine wpAny_bind (wpAny_newObj_type ?_ (by size_fits))
 refine wpAny_bind (m:=firstArgMember _ _) (wpAny_of_eq (a:=Value.none) (by first | rfl | (simp only [firstArgMember];rfl)) ?_)
 refine wpAny_newObj_type ?_ (by size_fits)
 simp only [raiseNew]
 refine wpAny_bind (wpAny_handled ?_)
 first | rw [show A.in1.handled = none from hh] | rw [hh]
 exact wpAny_bind (wpAny_pure (wpAny_throw (q _ _ (((Heap.SameBut.update ..).extBut.push _).push _) ⟨_,Heap.get?_push_size _ rfl,rfl⟩)))
end
end PP
end
section
namespace PP
open PySem PySem.Spec L2 PyProof.Rows
open Builtin.SmallTypes (nextOf)
def SqM (m:Bool) (K:PySem.W.Frag) (H:Hp) (a:Addr) (xs:List V):Prop:=if m = true then SqL K H a xs else SqT K H a xs
def OkM (m:Bool) (h:Heap) (a:Addr) (us:List Value):Prop:=if m = true then h.IsList a us.toArray else h.IsTuple a us.toArray
def ItO (m:Bool) (h:Heap) (i l:Addr) (k:Nat):Prop:=if m = true then h.IsListIter i l k else h.IsTupleIter i l k
theorem ItO.at {m:Bool} {h h':Heap} {i l:Addr} {k:Nat} (x:ItO m h i l k) (e:∀ o,h.get? i = some o→h'.get? i = some o):ItO m h' i l k:=by
 cases m
 · exact Heap.IsTupleIter.at x e
 · exact Heap.IsListIter.at x e
theorem ItO.obj {m:Bool} {h:Heap} {i l:Addr} {k:Nat} (x:ItO m h i l k):∃ o,h.get? i = some o∧∀ v,o.data≠.cell v:=by
 cases m <;>
 · obtain ⟨o,e,_,d⟩:=x
   exact ⟨o,e,fun v z=>by rw [d] at z;cases z⟩
section
variable {X:Cx} {pins:List (Addr × Obj)} {σ:L2.St} {H:Hp} {s:Shared} {A:Around} {E:Value→Shared→Prop}
theorem okM {m:Bool} {l:Addr} {ys:List V} (I:Inv X pins σ H s) (hq:SqM m X.K H l ys):∃ us,Vals ys us∧OkM m s.heap l us:=by
 cases m
 · obtain ⟨us,r,p,_⟩:=I.tuple hq
   exact ⟨us,r,p⟩
 · obtain ⟨us,r,p,_⟩:=I.list hq
   exact ⟨us,r,p.isList⟩
theorem sqM_inj {m:Bool} {l:Addr} {xs ys:List V} (I:Inv X pins σ H s) (h1:SqM m X.K H l xs) (h2:SqM m X.K H l ys):xs = ys:=by
 cases m
 · exact I.tuple_inj h1 h2
 · exact I.list_inj h1 h2
theorem it_next {m:Bool} {i l:Addr} {k:Nat} {ys:List V} {x:V} {Q:Value→Shared→Prop} (I:Inv X pins σ H s) (hq:SqM m X.K H l ys) (hx:ys[k]? = some x) (it:ItO m s.heap i l k)
 (q:∀ u h',RelV x u→ItO m h' i l (k+1)→Heap.SameBut i s.heap h'→Q u { s with heap:=h' }):wpAny (model X.prog X.w) A (nextOf (.ref i)) Q E s:=by
 obtain ⟨us,r,ok⟩:=okM I hq
 obtain ⟨u,hu,ru⟩:=r.get hx
 cases m
 · exact nextT_item it ok hu fun h' a b=>q u h' ru a b
 · exact wpAny_nextOf_list_item it ok (by simpa using hu) fun h' a b=>q u h' ru a b
theorem it_stop {m:Bool} {i l:Addr} {k:Nat} {ys:List V} {Q:Value→Shared→Prop} (hh:A.handled = none) (I:Inv X pins σ H s) (hq:SqM m X.K H l ys) (hx:ys.length≤k) (it:ItO m s.heap i l k)
 (q:∀ h' e,Heap.ExtBut i s.heap h'→(∃ o,h'.get? e = some o∧o.cls = .type "StopIteration")→E (.ref e) { s with heap:=h' }):wpAny (model X.prog X.w) A (nextOf (.ref i)) Q E s:=by
 obtain ⟨us,r,ok⟩:=okM I hq
 have hl:us[k]? = none:=List.getElem?_eq_none (by rw [← r.length];exact hx)
 cases m
 · exact nextT_end hh it ok hl q
 · exact wpAny_nextOf_list_end hh it ok (by simpa using hl) q
structure Zp (h:Heap) (m1 m2:Bool) (z TI TO i1 i2 l1 l2:Addr) (f0:Value) (k1 k2:Nat):Prop where
 hz:IsZip h z TI TO f0
 ti:IsPair h TI (.ref i1) (.ref i2)
 to:∃ a b,IsPair h TO a b
 i1:ItO m1 h i1 l1 k1
 i2:ItO m2 h i2 l2 k2
structure Ap (z TI TO i1 i2:Addr):Prop where
 a1:TI≠z
 a2:TO≠z
 a3:i1≠z
 a4:i2≠z
 a5:TI≠TO
 a6:TI≠i1
 a7:TI≠i2
 a8:TO≠i1
 a9:TO≠i2
 a10:i1≠i2
theorem fp_turn {b:Addr} {h':Heap} (I:Inv X pins σ H s) (f:FpOk X pins H b) (k:∀ c o,c≠b→s.heap.get? c = some o→h'.get? c = some o):Inv X pins σ H { s with heap:=h' }:=I.turned (t':=s.toks) k f.1 f.2.1 f.2.2.2.1 f.2.2.2.2.1 f.2.2.2.2.2
theorem zip_item {m1 m2:Bool} {z TI TO i1 i2 l1 l2:Addr} {k:Nat} {xs ys:List V} {x y:V} {Q:Value→Shared→Prop} (D:Ap z TI TO i1 i2) (I:Inv X pins σ H s) (hf:∀ b∈[z,TI,TO,i1,i2],FpOk X pins H b) (Z:Zp s.heap m1 m2 z TI TO i1 i2 l1 l2 .none k k)
 (q1:SqM m1 X.K H l1 xs) (q2:SqM m2 X.K H l2 ys) (hx:xs[k]? = some x) (hy:ys[k]? = some y)
 (hQ:∀ T h',H T = none→(∀ b∈[z,TI,TO,i1,i2],T≠b)→Inv X pins σ (upd H T (.tup [x,y])) { s with heap:=h' }→Zp h' m1 m2 z TI TO i1 i2 l1 l2 (rawInt T) (k+1) (k+1)→Q (.ref T) { s with heap:=h' }) :
 wpAny (model X.prog X.w) A (Builtin.«zip.__next__» ⟨[.ref z],[]⟩) (fun fin s'=>∃ v,fin = .done (.ret v)∧Q v s') E s:=by
 obtain ⟨hz,ti,⟨a,b,to⟩,h1,h2⟩:=Z
 have fz:=hf z (by simp)
 have fT:=hf TO (by simp)
 have f1:=hf i1 (by simp)
 have f2:=hf i2 (by simp)
 refine wpAny_bind (m:=field (.ref z) 2) (wpAny_field hz rfl (x:=.bool false) rfl ?_)
 refine wpAny_bind (m:=field (.ref z) 3) (wpAny_field hz rfl (x:=.ref TI) rfl ?_)
 refine wpAny_bind (wpAny_seqItems ti rfl ?_)
 refine wpAny_bind (m:=Builtin.SmallTypes.ownedTupleIsFree (.ref z)) ?_
 unfold Builtin.SmallTypes.ownedTupleIsFree
 refine wpAny_bind (wpAny_field hz rfl (x:=.none) rfl (wpAny_pure ?_))
 simp only [if_true]
 refine wpAny_bind (wpAny_rule (wpAny_bind (wpAny_field hz rfl (x:=.ref TO) rfl (wpAny_bind (wpAny_setField_rec hz (by simp) fun g1 y1 s1=>wpAny_bind ?_)))))
 replace y1:IsZip g1 z TI TO .ellipsis:=y1
 have I1:=fp_turn I fz fun c o n e=>s1.extBut c o n e
 simp only [List.zipIdx_cons,List.zipIdx_nil,List.forIn_cons,List.forIn_nil]
 refine wpAny_bind (wpAny_bind (wpAny_onRaise (wpAny_bind (m:=nextOf (.ref i1)) (it_next I1 q1 hx (h1.at fun o e=>s1.extBut _ o D.a3 e) fun u g2 ru j1 s2=>wpAny_pure ?_))))
 have I2:=fp_turn I1 f1 fun c o n e=>s2.extBut c o n e
 have to2:IsPair g2 TO a b:=s2.extBut _ _ D.a8 (s1.extBut _ _ D.a2 to)
 refine wpAny_bind (wpAny_seqItems to2 rfl (wpAny_bind (wpAny_updateSeq_pair to2 fun g3 to3 s3=>wpAny_bind (wpAny_letGo (wpAny_pure ?_)))))
 replace to3:IsPair g3 TO u b:=to3
 have I3:=fp_turn I2 fT fun c o n e=>s3.extBut c o n e
 refine wpAny_bind (wpAny_bind (wpAny_onRaise (wpAny_bind (m:=nextOf (.ref i2)) (it_next I3 q2 hy (((h2.at fun o e=>s1.extBut _ o D.a4 e).at fun o e=>s2.extBut _ o D.a10.symm e).at fun o e=>s3.extBut _ o D.a9.symm e) fun v g4 rv j2 s4=>wpAny_pure ?_))))
 have I4:=fp_turn I3 f2 fun c o n e=>s4.extBut c o n e
 have to4:IsPair g4 TO u b:=s4.extBut _ _ D.a9 to3
 refine wpAny_bind (wpAny_seqItems to4 rfl (wpAny_bind (wpAny_updateSeq_pair to4 fun g5 to5 s5=>wpAny_bind (wpAny_letGo (wpAny_pure (wpAny_pure ?_))))))
 replace to5:IsPair g5 TO u v:=to5
 have I5:=fp_turn I4 fT fun c o n e=>s5.extBut c o n e
 refine wpAny_bind (wpAny_seqItems to5 rfl (wpAny_bind (wpAny_newTuple ?_)))
 have hT:H g5.objs.size = none:=I5.hok.fresh (Nat.le_refl _)
 have z5:IsZip g5 z TI TO .ellipsis:=s5.extBut _ _ D.a2.symm (s4.extBut _ _ D.a4.symm (s3.extBut _ _ D.a2.symm (s2.extBut _ _ D.a3.symm y1)))
 have ti5:IsPair g5 TI (.ref i1) (.ref i2):=s5.extBut _ _ D.a5 (s4.extBut _ _ D.a7 (s3.extBut _ _ D.a5 (s2.extBut _ _ D.a6 (s1.extBut _ _ D.a1 ti))))
 have k1:ItO m1 g5 i1 l1 (k+1):=((j1.at fun o e=>s3.extBut _ o D.a8.symm e).at fun o e=>s4.extBut _ o D.a10 e).at fun o e=>s5.extBut _ o D.a8.symm e
 have k2:ItO m2 g5 i2 l2 (k+1):=j2.at fun o e=>s5.extBut _ o D.a9.symm e
 have Tz:g5.objs.size≠z:=Nat.ne_of_gt (Heap.lt_size z5)
 have Ts:∀ b∈[z,TI,TO,i1,i2],g5.objs.size≠b:=fun b hb=>by
  obtain ⟨_,e1,_⟩:=k1.obj
  obtain ⟨_,e2,_⟩:=k2.obj
  simp only [List.mem_cons,List.not_mem_nil,or_false] at hb
  rcases hb with rfl | rfl | rfl | rfl | rfl
  · exact Tz
  · exact Nat.ne_of_gt (Heap.lt_size ti5)
  · exact Nat.ne_of_gt (Heap.lt_size to5)
  · exact Nat.ne_of_gt (Heap.lt_size e1)
  · exact Nat.ne_of_gt (Heap.lt_size e2)
 have I6:Inv X pins σ (upd H g5.objs.size (.tup [x,y])) { s with heap:=g5.push { cls:=.type "tuple",data:=.seq #[u,v] } } :=
  I5.laid (t':=s.toks) (fun b u e=>Heap.get?_push_of_some _ e) (Nat.le_refl _) ⟨by show 2≤sizeLine;decide,[u,v],.cons ru (.cons rv .nil),⟨_,Heap.get?_push_size _ rfl,rfl,_,rfl⟩⟩
 have fz6:FpOk X pins (upd H g5.objs.size (.tup [x,y])) z:=⟨by rw [upd_ne Tz.symm];exact fz.1,fz.2⟩
 refine wpAny_bind (m:=Builtin.SmallTypes.ownedTupleHandOut (.ref z) (.ref g5.objs.size)) ?_
 unfold Builtin.SmallTypes.ownedTupleHandOut
 have z6:IsZip (g5.push { cls:=.type "tuple",data:=.seq #[u,v] }) z TI TO .ellipsis:=Heap.get?_push_of_some _ z5
 refine wpAny_bind (wpAny_setField_rec z6 (by simp) fun g7 z7 s7=>?_)
 replace z7:IsZip g7 z TI TO (rawInt g5.objs.size):=z7
 refine wpAny_setField_rec z7 (by simp) fun g8 z8 s8=>?_
 replace z8:IsZip g8 z TI TO (rawInt g5.objs.size):=z8
 have up:∀ c o,c≠z→g5.get? c = some o→g8.get? c = some o:=fun c o n e=>s8.extBut _ _ n (s7.extBut _ _ n (Heap.get?_push_of_some _ e))
 have I8:=fp_turn (fp_turn I6 fz6 fun c o n e=>s7.extBut c o n e) fz6 fun c o n e=>s8.extBut c o n e
 exact wpAny_pure ⟨_,rfl,hQ g5.objs.size g8 hT Ts I8 ⟨z8,up _ _ D.a1 ti5,⟨_,_,up _ _ D.a2 to5⟩,k1.at fun o e=>up _ o D.a3 e,k2.at fun o e=>up _ o D.a4 e⟩⟩
theorem zip_stop {m1 m2:Bool} {z TI TO i1 i2 l1 l2:Addr} {k:Nat} {xs ys:List V} {Q:PySem.Fin→Shared→Prop} (hh:A.handled = none) (D:Ap z TI TO i1 i2) (I:Inv X pins σ H s) (hf:∀ b∈[z,TI,TO,i1,i2],FpOk X pins H b) (Z:Zp s.heap m1 m2 z TI TO i1 i2 l1 l2 .none k k)
 (q1:SqM m1 X.K H l1 xs) (q2:SqM m2 X.K H l2 ys) (hend:xs.length≤k∨ys.length≤k)
 (hE:∀ h' e,Inv X pins σ H { s with heap:=h' }→(∃ o,h'.get? e = some o∧o.cls = .type "StopIteration")→E (.ref e) { s with heap:=h' }) :
 wpAny (model X.prog X.w) A (Builtin.«zip.__next__» ⟨[.ref z],[]⟩) Q E s:=by
 obtain ⟨hz,ti,⟨a,b,to⟩,h1,h2⟩:=Z
 have fz:=hf z (by simp)
 have fT:=hf TO (by simp)
 have f1:=hf i1 (by simp)
 have f2:=hf i2 (by simp)
 refine wpAny_bind (m:=field (.ref z) 2) (wpAny_field hz rfl (x:=.bool false) rfl ?_)
 refine wpAny_bind (m:=field (.ref z) 3) (wpAny_field hz rfl (x:=.ref TI) rfl ?_)
 refine wpAny_bind (wpAny_seqItems ti rfl ?_)
 refine wpAny_bind (m:=Builtin.SmallTypes.ownedTupleIsFree (.ref z)) ?_
 unfold Builtin.SmallTypes.ownedTupleIsFree
 refine wpAny_bind (wpAny_field hz rfl (x:=.none) rfl (wpAny_pure ?_))
 simp only [if_true]
 refine wpAny_bind (wpAny_rule (wpAny_bind (wpAny_field hz rfl (x:=.ref TO) rfl (wpAny_bind (wpAny_setField_rec hz (by simp) fun g1 y1 s1=>wpAny_bind ?_)))))
 replace y1:IsZip g1 z TI TO .ellipsis:=y1
 have I1:=fp_turn I fz fun c o n e=>s1.extBut c o n e
 simp only [List.zipIdx_cons,List.zipIdx_nil,List.forIn_cons,List.forIn_nil]
 have j1:ItO m1 g1 i1 l1 k:=h1.at fun o e=>s1.extBut _ o D.a3 e
 have last:∀ {g:Heap} {e:Addr} (Ig:Inv X pins σ H { s with heap:=g }) (zg:IsZip g z TI TO .ellipsis) (he:∃ o,g.get? e = some o∧o.cls = .type "StopIteration"),
  wpAny (model X.prog X.w) A (setField (.ref z) 0 .none) (fun _ s'=>E (.ref e) s') E { s with heap:=g }:=fun {g e} Ig zg he=>by
  obtain ⟨o,ho,hc⟩:=he
  have ez:e≠z:=fun x=>by subst x;rw [zg] at ho;cases ho;simp at hc
  refine wpAny_setField_rec zg (by simp) fun g' _ s'=>?_
  have I':=fp_turn (h':=g') Ig fz fun c o n e=>s'.extBut c o n e
  exact hE g' e I' ⟨o,s'.extBut _ _ ez ho,hc⟩
 refine wpAny_bind (wpAny_bind (wpAny_onRaise (wpAny_bind (m:=nextOf (.ref i1)) ?_)))
 by_cases hx:xs.length≤k
 · refine it_stop hh I1 q1 hx j1 fun g2 e x2 he=>?_
   have I2:=fp_turn (h':=g2) I1 f1 fun c o n e=>x2 c o n e
   exact last I2 (x2 _ _ D.a3.symm y1) he
 · obtain ⟨x,ex⟩:∃ x,xs[k]? = some x:=⟨xs[k],List.getElem?_eq_getElem (by omega)⟩
   refine it_next I1 q1 ex j1 fun u g2 ru j1' s2=>wpAny_pure ?_
   have I2:=fp_turn I1 f1 fun c o n e=>s2.extBut c o n e
   have to2:IsPair g2 TO a b:=s2.extBut _ _ D.a8 (s1.extBut _ _ D.a2 to)
   refine wpAny_bind (wpAny_seqItems to2 rfl (wpAny_bind (wpAny_updateSeq_pair to2 fun g3 to3 s3=>wpAny_bind (wpAny_letGo (wpAny_pure ?_)))))
   have I3:=fp_turn I2 fT fun c o n e=>s3.extBut c o n e
   refine wpAny_bind (wpAny_bind (wpAny_onRaise (wpAny_bind (m:=nextOf (.ref i2)) ?_)))
   refine it_stop hh I3 q2 (by omega) (((h2.at fun o e=>s1.extBut _ o D.a4 e).at fun o e=>s2.extBut _ o D.a10.symm e).at fun o e=>s3.extBut _ o D.a9.symm e) fun g4 e x4 he=>?_
   have I4:=fp_turn (h':=g4) I3 f2 fun c o n e=>x4 c o n e
   exact last I4 (x4 _ _ D.a4.symm (s3.extBut _ _ D.a2.symm (s2.extBut _ _ D.a3.symm y1))) he
end
end PP
end
section
namespace PP
open PySem PySem.Spec L2 PyProof.Rows
def Itz (K:PySem.W.Frag) (m1 m2:Bool) (l1 l2:Addr):L2.It :=
 ⟨fun i H=>∃ xs ys x y,SqM m1 K H l1 xs∧SqM m2 K H l2 ys∧xs[i]? = some x∧ys[i]? = some y,
   fun i H v H'=>∃ T x y,v = .ref T∧H T = none∧H' = upd H T (.tup [x,y])∧(∀ xs,SqM m1 K H l1 xs→xs[i]? = some x)∧∀ ys,SqM m2 K H l2 ys→ys[i]? = some y,
   fun i H=>∃ xs ys,SqM m1 K H l1 xs∧SqM m2 K H l2 ys∧(xs.length≤i∨ys.length≤i)⟩
theorem turn_zip {P:Program} {w:World} {K:PySem.W.Frag} {elts:List Expr} {k0:Nat} {pos:Pos} {m1 m2:Bool} {z TI TO i1 i2 l1 l2:Addr} (D:Ap z TI TO i1 i2) :
 Turn P w K (.Tuple elts k0 pos) (Itz K m1 m2 l1 l2) [z,TI,TO,i1,i2] z (fun i h=>Zp h m1 m2 z TI TO i1 i2 l1 l2 .none i i) where
 mem:=by simp
 obj:=fun i h st b hb=>by
  obtain ⟨hz,ti,⟨a,c,to⟩,h1,h2⟩:=st
  simp only [List.mem_cons,List.not_mem_nil,or_false] at hb
  rcases hb with rfl | rfl | rfl | rfl | rfl
  · exact ⟨_,hz,fun v z=>by cases z⟩
  · exact ⟨_,ti,fun v z=>by cases z⟩
  · exact ⟨_,to,fun v z=>by cases z⟩
  · exact h1.obj
  · exact h2.obj
 keep:=fun i h h' st k=>by
  obtain ⟨hz,ti,⟨a,c,to⟩,h1,h2⟩:=st
  exact ⟨k z (by simp) _ hz,k TI (by simp) _ ti,⟨a,c,k TO (by simp) _ to⟩,h1.at fun o e=>k _ (by simp) o e,h2.at fun o e=>k _ (by simp) o e⟩
 item:=by
  intro X hP hw hK hc i pins s σ H E I hf st hg
  subst hP hw hK
  obtain ⟨xs,ys,x,y,q1,q2,hx,hy⟩:=hg
  have hT:s.TypeIs (.ref z) "zip":=⟨_,st.hz,rfl⟩
  unfold pyNext
  refine wpAny_bind (wpAny_attempt (wpAny_callSpecial?_slot (name:=Str.ofString "__next__") hT PySem.F.slot_zip_next (wpAny_call_entry PySem.F.slot_zip_next hT PySem.F.entry_zip_next (zip_item D I hf st q1 q2 hx hy fun T h' nT nb I' Z'=>wpAny_pure ⟨.ref T,rfl,?_⟩) (PySem.F.args_zip_next_1 _))))
  refine wpAny_letOwnedTupleGo_zip Z'.hz fun h2 z2 s2=>?_
  have hn:∀ b∈[z,TI,TO,i1,i2],upd H T (.tup [x,y]) b = none:=fun b hb=>by rw [upd_ne (nb b hb).symm];exact (hf b hb).1
  have I2:=fp_turn (h':=h2) I' ⟨hn z (by simp),(hf z (by simp)).2⟩ fun c o n e=>s2.extBut c o n e
  obtain ⟨_,ti,⟨a,c,to⟩,h1,h2'⟩:=Z'
  exact ⟨.ref T,upd H T (.tup [x,y]),I2,rfl,⟨T,x,y,rfl,nT,rfl,fun xs' h=>by rw [sqM_inj I h q1];exact hx,fun ys' h=>by rw [sqM_inj I h q2];exact hy⟩,
   ⟨z2,s2.extBut _ _ D.a1 ti,⟨a,c,s2.extBut _ _ D.a2 to⟩,h1.at fun o e=>s2.extBut _ o D.a3 e,h2'.at fun o e=>s2.extBut _ o D.a4 e⟩,hn⟩
 done:=by
  intro X hP hw hK hc i pins s σ H E I hf st hg
  subst hP hw hK
  obtain ⟨xs,ys,q1,q2,he⟩:=hg
  have hT:s.TypeIs (.ref z) "zip":=⟨_,st.hz,rfl⟩
  unfold pyNext
  refine wpAny_bind (wpAny_attempt (wpAny_callSpecial?_slot (name:=Str.ofString "__next__") hT PySem.F.slot_zip_next (wpAny_call_entry PySem.F.slot_zip_next hT PySem.F.entry_zip_next (zip_stop (I.ok.hd hc) D I hf st q1 q2 he fun h' e I' he=>?_) (PySem.F.args_zip_next_1 _))))
  obtain ⟨o,ho,hc⟩:=he
  exact wpAny_bind (wpAny_isInstance (T:="StopIteration") (b:=true) ⟨o,ho,hc⟩ isSubtype_stop (wpAny_pure ⟨rfl,I'⟩))
 self:=fun _ _ _ _ _ st h=>wpAny_pyIter_zip st.hz h
def itN (m:Bool):String:=if m = true then "list_iterator" else "tuple_iterator"
def itObj (m:Bool) (l:Addr):Obj:={ cls:=.type (itN m),data:=.fields #[.ref l,.int 0 0] }
theorem iterM {prog:Program} {w:World} {A:Around} {E:Value→Shared→Prop} {s:Shared} {m:Bool} {l:Addr} {us:List Value} {Q:Value→Shared→Prop} (ok:OkM m s.heap l us) (h:Q (.ref s.heap.objs.size) { s with heap:=s.heap.push (itObj m l) }):wpAny (model prog w) A (pyIter (.ref l)) Q E s:=by
 cases m
 · exact wpAny_pyIter_tuple (show s.heap.IsTuple l us.toArray from ok) h
 · exact wpAny_pyIter_list (show s.heap.IsList l us.toArray from ok) h
theorem OkM.push {m:Bool} {h:Heap} {l:Addr} {us:List Value} (ok:OkM m h l us) (o:Obj):OkM m (h.push o) l us:=by
 cases m
 · exact Heap.IsTuple.at (show h.IsTuple l us.toArray from ok) fun o e=>Heap.get?_push_of_some _ e
 · exact Heap.IsList.push ok o
def zH (h:Heap) (m1 m2:Bool) (l1 l2:Addr):Heap:=((((h.push (itObj m1 l1)).push (itObj m2 l2)).push { cls:=.type "tuple",data:=.seq #[.ref h.objs.size,.ref (h.objs.size+1)] }).push { cls:=.type "tuple",data:=.seq #[.none,.none] }).push { cls:=.type "zip",data:=.fields #[.none,.bool false,.bool false,.ref (h.objs.size+2),.ref (h.objs.size+3)] }
theorem meets_zip {m1 m2:Bool} (l1 l2:Addr) (us vs:List Value):Meets (Builtin.«zip.__new__» ⟨[.type "zip",.ref l1,.ref l2],[]⟩) (fun _ R s=>OkM m1 s.heap l1 us∧OkM m2 s.heap l2 vs∧R (.ok (.ret (.ref (s.heap.objs.size+4)))) { s with heap:=zH s.heap m1 m2 l1 l2 }) :=
 .of_wp fun prog w A R s h=>by
  obtain ⟨hp,g,d,tk,os⟩:=s
  obtain ⟨o1,o2,h⟩:=h
  have hsub:=sub_zip
  have L1:OkM m1 (Shared.heap ⟨hp,g,d,tk,os⟩) l1 us:=o1
  have L2:OkM m2 (Shared.heap ⟨hp.push (itObj m1 l1),g,d,tk,os⟩) l2 vs:=OkM.push o2 _
  wp_walk using iterM L1,iterM L2
  refine ⟨_,rfl,?_⟩
  unfold zH at h
  simp only [Heap.size_push]
  exact h
section
variable {prog:Program} {w:World} {A:Around} {E:Value→Shared→Prop} {s:Shared}
theorem call_zipM {m1 m2:Bool} {l1 l2:Addr} {us vs:List Value} {Q:Value→Shared→Prop} (o1:OkM m1 s.heap l1 us) (o2:OkM m2 s.heap l2 vs)
 (h:∀ h',Zp h' m1 m2 (s.heap.objs.size+4) (s.heap.objs.size+2) (s.heap.objs.size+3) s.heap.objs.size (s.heap.objs.size+1) l1 l2 .none 0 0→(∀ c o,s.heap.get? c = some o→h'.get? c = some o)→Q (.ref (s.heap.objs.size+4)) { s with heap:=h' }) :
 wpAny (model prog w) A (call (.type "zip") [.ref l1,.ref l2]) Q E s:=by
 refine callType_new PySem.F.called_zip (by decide) (PySem.F.typeCall_zip_2 _ _) (PySem.F.newCall_zip_2 _ _) (fun obj=>PySem.F.args_object_init_3 obj _ _) PySem.F.entry_zip_new (meets_zip (m1:=m1) (m2:=m2) l1 l2 us vs) ⟨o1,o2,?_⟩
 have up:∀ {h:Heap} {c:Addr} {o o':Obj},h.get? c = some o→(h.push o').get? c = some o:=fun e=>Heap.get?_push_of_some _ e
 have at_:∀ {h:Heap} {o:Obj} {n:Addr},h.objs.size = n→o.isFreed = false→(h.push o).get? n = some o:=fun e f=>by rw [← e];exact Heap.get?_push_size _ f
 have z1:(s.heap.push (itObj m1 l1)).objs.size = s.heap.objs.size+1:=Heap.size_push ..
 have z2:((s.heap.push (itObj m1 l1)).push (itObj m2 l2)).objs.size = s.heap.objs.size+2:=by rw [Heap.size_push,z1]
 have z3:(((s.heap.push (itObj m1 l1)).push (itObj m2 l2)).push { cls:=.type "tuple",data:=.seq #[.ref s.heap.objs.size,.ref (s.heap.objs.size+1)] }).objs.size = s.heap.objs.size+3:=by rw [Heap.size_push,z2]
 have z4:((((s.heap.push (itObj m1 l1)).push (itObj m2 l2)).push { cls:=.type "tuple",data:=.seq #[.ref s.heap.objs.size,.ref (s.heap.objs.size+1)] }).push { cls:=.type "tuple",data:=.seq #[.none,.none] }).objs.size = s.heap.objs.size+4:=by rw [Heap.size_push,z3]
 have g5:(zH s.heap m1 m2 l1 l2).get? (s.heap.objs.size+4) = some _:=at_ z4 rfl
 have g4:(zH s.heap m1 m2 l1 l2).get? (s.heap.objs.size+3) = some _:=up (at_ z3 rfl)
 have g3:(zH s.heap m1 m2 l1 l2).get? (s.heap.objs.size+2) = some _:=up (up (at_ z2 rfl))
 have g2:(zH s.heap m1 m2 l1 l2).get? (s.heap.objs.size+1) = some (itObj m2 l2):=up (up (up (at_ z1 rfl)))
 have g1:(zH s.heap m1 m2 l1 l2).get? s.heap.objs.size = some (itObj m1 l1):=up (up (up (up (at_ rfl rfl))))
 have it:∀ {m:Bool} {i l:Addr} {h:Heap},h.get? i = some (itObj m l)→ItO m h i l 0:=fun {m i l h} e=>by cases m<;>exact ⟨_,e,rfl,rfl⟩
 exact ⟨⟨_,g5,rfl⟩,h _ ⟨g5,g3,⟨_,_,g4⟩,it g1,it g2⟩ fun c o e=>up (up (up (up (up e))))⟩
end
theorem ne_nat {a b:Nat} (h:a≠b):(show Addr from a)≠(show Addr from b):=h
def iZip (K:PySem.W.Frag) (ta:TA):TI:=fun σ H R=>ta σ H fun vs H1=>∃ m1 m2 l1 l2 xs ys,vs = [.ref l1,.ref l2]∧SqM m1 K H1 l1 xs∧SqM m2 K H1 l2 ys∧R (Itz K m1 m2 l1 l2) H1
theorem pi_zip {X:Cx} {elts:List Expr} {k0:Nat} {tp:Pos} {a b:Expr} {ta:TA} {p pos:Pos} (hg:Gl X "zip") (hm:X.mg "zip" = none) (ha:PA X [a,b] ta) (hs:starEach [a,b] X.env = (false,eval a X.env)::starEach [b] X.env) (hpl:(backTo pos (starEach [b] X.env)).any (·.1) = false) :
 PI X (.Tuple elts k0 tp) (.Call (.Name "zip" p) [a,b] [] pos) (iZip X.K ta):=by
 intro pins s σ H R I h
 refine Call_ (ld_blt I hg hm boot_zip (PyProof.Rows.callWith_type1 (thn (ha pos pins s σ H _ I h) fun us s1 ⟨vs,H1,I1,r1,q1⟩=>?_) hs hpl))
 obtain ⟨m1,m2,l1,l2,xs,ys,rfl,s1',s2',q⟩:=q1
 obtain ⟨u,rr,e,r,rr1⟩:∃ u rr,us = u::rr∧RelV (.ref l1) u∧Vals [.ref l2] rr:=by cases r1 with | cons r rr=>exact ⟨_,_,rfl,r,rr⟩
 obtain ⟨v,rfl,r2⟩:=vals1 rr1
 subst e
 cases r
 cases r2
 obtain ⟨us1,_,o1⟩:=okM I1 s1'
 obtain ⟨us2,_,o2⟩:=okM I1 s2'
 refine call_zipM o1 o2 fun h' Z k=>?_
 refine wpAny_pyIter_zip Z.hz ?_
 have D:Ap (s1.heap.objs.size+4) (s1.heap.objs.size+2) (s1.heap.objs.size+3) s1.heap.objs.size (s1.heap.objs.size+1):=by
  constructor<;>(refine ne_nat ?_;omega)
 refine ⟨_,_,_,_,H1,rfl,I1.kept (t':=s1.toks) k,turn_zip D,Z,fun b hb=>?_,q⟩
 have hle:s1.heap.objs.size≤b:=by
  simp only [List.mem_cons,List.not_mem_nil,or_false] at hb
  rcases hb with rfl | rfl | rfl | rfl | rfl<;>omega
 exact I1.fpOk hle (I1.hok.fresh hle)
end PP
end
section
namespace PP
open PySem L2 PyProof.Rows
variable [Tbs]
section
variable {X:Cx} {c:Ck} {cx:Cl} {k:Nat}
def kM:D→Bool
 | .lst _=>true
 | _=>false
theorem seq_rel {K:PySem.W.Frag} {H:Hp} {F:Addr→Prop} {d:D} {ds:List D} {v:V} (e:seqD d = some ds) (r:Rel K H F d v):∃ a us,v = .ref a∧SqM (kM d) K H a us∧RelL K H F ds us:=by
 cases d with
 | lst l =>
   cases e
   obtain ⟨a,us,e1,h1,h2⟩:=RelB.lst (.inl r)
   exact ⟨a,us,e1,h1.sq,h2⟩
 | tup l =>
   cases e
   obtain ⟨a,us,e1,h1,h2⟩:=RelB.tup (.inl r)
   exact ⟨a,us,e1,h1,h2⟩
 | _=>cases e
theorem sndS_forZ (C:Cok X c cx k) {tg:Tg} {es:Es} {body:Ss} {t a b:Expr} {ys:List Stmt} {p cp pos:Pos} (ht:isTp t = true) (htg:ckTg c tg t = true) (hg:Gl X "zip") (hm:X.mg "zip" = none) (hA:PA X [a,b] (tEs X.K cx es)) (hc:ckEs c es [a,b] = true) (n:noPk es = true) (hb:PSs X ys (tS X.K (evSs cx body))) :
 PS X (.For t (.Call (.Name "zip" p) [a,b] [] cp) ys [] pos) (tS X.K (evS cx (.forZ tg es body))):=by
 have hp:PassesOwn (model X.prog X.w) X.A X.env X.xe:=by rw [C.xe];exact PassesOwn.never
 have tt:∃ es n q,t = .Tuple es n q:=by
  rcases tg_shape htg with ⟨_,_,rfl⟩ | h
  · cases ht
  · exact h
 obtain ⟨elts,k0,tp,rfl⟩:=tt
 obtain ⟨_,_,_,c1,c2⟩:=ckEs_cons hc
 refine PS.imp (ps_for hp C.calm (pi_zip hg hm hA (head_star (ck_head c1) _ _) (star_any c2)) (snd_tg C htg) hb (fun v=>rfl)) fun E σ H ⟨G,F,δ,out,ok,ev,post⟩=>?_
 simp only [evS,Option.bind_eq_bind,Option.bind_eq_some_iff] at ev
 obtain ⟨⟨ds,δ1⟩,e1,ev⟩:=ev
 dsimp only at ev
 split at ev
 · rename_i x y
   split at ev
   · rename_i xs ys' ex ey
     generalize ef:(fun (x:D) (δ0:Loc)=>match setTg δ0 tg x with | some δ2=>evSs cx body δ2 | none=>none) = f at ev
     refine ⟨G,F,δ,[x,y],δ1,ok,e1,fun vs H1 F1 st sm ok1 r1=>?_⟩
     have r:=r1.rl n
     unfold RelL at r
     obtain ⟨v1,_,rfl,q1,r⟩:=r
     unfold RelL at r
     obtain ⟨v2,_,rfl,q2,r⟩:=r
     unfold RelL at r
     subst r
     obtain ⟨l1,us1,rfl,s1,_⟩:=seq_rel ex q1
     obtain ⟨l2,us2,rfl,s2,_⟩:=seq_rel ey q2
     refine ⟨kM x,kM y,l1,l2,us1,us2,rfl,s1,s2,?_⟩
     have zl:(zipD xs ys').length = min xs.length ys'.length:=by unfold zipD;rw [List.length_map,List.length_zip]
     refine ⟨fun i m σ' H'=>∃ F' δ',m = (zipD xs ys').length - i∧i≤(zipD xs ys').length∧Step G F1 H1 F' H'∧Ok X.K G F' σ' H' δ'∧forL f ((zipD xs ys').drop i) δ' = some out,⟨_,F1,δ1,rfl,Nat.zero_le _,Step.refl,ok1,ev⟩,?_⟩
     rintro i m σ' H' ⟨F',δ',rfl,hi,st',ok',ev'⟩
     obtain ⟨_,w1,ea,t1,rl1⟩:=seq_rel ex (Rel.step ok1.fd st' _ _ q1)
     cases ea
     obtain ⟨_,w2,ea,t2,rl2⟩:=seq_rel ey (Rel.step ok1.fd st' _ _ q2)
     cases ea
     have ll1:=rl1.length
     have ll2:=rl2.length
     by_cases hlt:i < (zipD xs ys').length
     · right
       have h1:i < xs.length:=by omega
       have h2:i < ys'.length:=by omega
       obtain ⟨a1,ha1,ra1⟩:=rl1.get (List.getElem?_eq_getElem h1)
       obtain ⟨a2,ha2,ra2⟩:=rl2.get (List.getElem?_eq_getElem h2)
       have edr:(zipD xs ys').drop i = .tup [xs[i],ys'[i]]::(zipD xs ys').drop (i+1):=by
        have e0:(zipD xs ys')[i]? = some (.tup [xs[i],ys'[i]]):=by
         unfold zipD
         rw [List.getElem?_map,(List.getElem?_zip_eq_some (z:=(xs[i],ys'[i]))).mpr ⟨List.getElem?_eq_getElem h1,List.getElem?_eq_getElem h2⟩]
         rfl
        rw [List.drop_eq_getElem_cons hlt]
        congr 1
        rw [List.getElem?_eq_getElem hlt] at e0
        exact Option.some.inj e0
       rw [edr] at ev'
       unfold forL at ev'
       refine ⟨⟨w1,w2,a1,a2,t1,t2,ha1,ha2⟩,fun σ2 H2=>∃ m',m' < (zipD xs ys').length - i∧∃ F2 δ2,m' = (zipD xs ys').length - (i+1)∧i+1≤(zipD xs ys').length∧Step G F1 H1 F2 H2∧Ok X.K G F2 σ2 H2 δ2∧forL f ((zipD xs ys').drop (i+1)) δ2 = some out,fun σ2 H2 z=>z,fun v H3 hy=>?_⟩
       obtain ⟨T,b1,b2,rfl,nT,rfl,y1,y2⟩:=hy
       have eb1:b1 = a1:=Option.some.inj ((y1 _ t1).symm.trans ha1)
       have eb2:b2 = a2:=Option.some.inj ((y2 _ t2).symm.trans ha2)
       subst eb1 eb2
       have rx:=rel_newTup ok' nT (RelL.cons ra1 (RelL.cons ra2 RelL.nil))
       have sn:=same_new nT (.tup [b1,b2])
       have ok3:=ok'.same' sn
       have st3:=st'.trans (Step.of_same sn)
       cases hf:f (.tup [xs[i],ys'[i]]) δ' with
       | none=>rw [hf] at ev';cases ev'
       | some o1 =>
         have hf':=hf
         rw [← ef] at hf'
         dsimp only at hf'
         cases hs:setTg δ' tg (.tup [xs[i],ys'[i]]) with
         | none=>rw [hs] at hf';cases hf'
         | some δ2 =>
           rw [hs] at hf'
           refine tg_read ok3 rx hs fun σ2 ok2 _=>⟨G,F',δ2,o1,ok2,hf',?_⟩
           rw [hf] at ev'
           cases o1 with
           | nx δ3=>exact fun σ3 H4 F4 s4 k4=>⟨_,by omega,F4,δ3,rfl,hlt,st3.trans s4,k4,ev'⟩
           | ct δ3=>exact fun σ3 H4 F4 s4 k4=>⟨_,by omega,F4,δ3,rfl,hlt,st3.trans s4,k4,ev'⟩
           | bk δ3 =>
             cases ev'
             exact fun σ3 H4 F4 s4 k4=>post σ3 H4 F4 ((st.trans st3).trans s4) k4
           | rt d3 δ3 =>
             cases ev'
             exact fun v σ3 H4 F4 s4 k4 r4=>post v σ3 H4 F4 ((st.trans st3).trans s4) k4 r4
           | ro d3 δ3 =>
             cases ev'
             exact fun a xs σ3 H4 F4 s4 k4=>post a xs σ3 H4 F4 ((st.trans st3).trans s4) k4
     · left
       have hi':i = (zipD xs ys').length:=by omega
       refine ⟨⟨w1,w2,t1,t2,by omega⟩,?_⟩
       rw [hi',List.drop_length] at ev'
       cases ev'
       exact post σ' H' F' (st.trans st') ok'
   · cases ev
 · cases ev
end
end PP
end
section
namespace PP
open PySem L2 PyProof.Rows
variable [Tbs]
section
variable {X:Cx} {c:Ck} {cx:Cl} {k:Nat}
theorem few1 {c:Ck} {e:E} {z:Expr} {env:Env} {cp:Pos} (h:ckE c e z = true):((backTo cp (starEach [z] env)).all (fun x=>!x.1) && (backToKw cp (keywordEach [] env)).all (fun x=>x.1.isSome)
 && decide (([z]:List Expr).length+([]:List Keyword).length+(if ([]:List Keyword).isEmpty then 0 else 1) < 30)) = true:=by
 rw [head_star (ck_head h)]
 rfl
theorem sndS_append {i:Nat} {e:E} {x:Str} {z:Expr} {p1 p2 ap cp:Pos} (C:Cok X c cx k) (hx:nameIs c i x = true) (hl:ap.endLine = cp.line) (hz:ckE c e z = true) (n:(!isPk e) = true) (he:PE X z (tE X.K cx e)) :
 PS X (.Expr (.Call (.Attribute (.Name x p1) "append" ap) [z] [] cp) p2) (tS X.K (evS cx (.append i e))):=by
 obtain ⟨n1,n2,n3,n4⟩:=C.name hx
 have hs:=head_star (ck_head hz) [] X.env
 have hA:PA X [z] (tEs X.K cx (.cons e .nil)):=snd_cons (by simp [npS]) he snd_nil hs
 refine PS.imp (ps_expr (pe_bm PySem.F.plainAttrs_list PySem.F.slot_list_append PySem.F.type_list_append mt_append (pe_var n1 n2 n3 n4) hA rfl (few1 hz) (by simpa using hl) hs rfl)) fun E σ H ⟨G,F,δ,out,ok,ev,post⟩=>?_
 simp only [evS] at ev
 cases q:δ[i]? with
 | none=>rw [q] at ev;cases ev
 | some s =>
   rw [q] at ev
   cases s with
   | no=>cases ev
   | fnc _ _=>cases ev
   | odc _ _=>cases ev
   | val _=>cases ev
   | own ds0 =>
     simp only [Option.bind_eq_bind,Option.bind_eq_some_iff] at ev
     obtain ⟨⟨d,δ1⟩,e1,ev⟩:=ev
     dsimp only at ev
     obtain ⟨a,xs0,ea,f1,f2,f3,f4⟩:=ok.sl i _ q
     cases q1:δ1[i]? with
     | none=>rw [q1] at ev;cases ev
     | some s1 =>
       rw [q1] at ev
       cases s1 with
       | no=>cases ev
       | fnc _ _=>cases ev
       | odc _ _=>cases ev
       | val _=>cases ev
       | own ds =>
         dsimp only at ev
         split at ev
         · rename_i hz'
           cases ev
           refine ⟨.ref a,ea,.inl ⟨rfl,xs0,.inl (.inl f3)⟩,G,F,δ,[d],δ1,ok,by simp [evEs,e1],fun vs H1 F1 st sm ok1 r=>?_⟩
           obtain ⟨d',ds',v,vs',ed,rfl,rv,rn⟩:=r
           cases ed
           obtain ⟨_,rfl⟩:=rn
           have rv':=rel_of n rv
           obtain ⟨a',xs,ea',g1,g2,g3,g4⟩:=ok1.sl i _ q1
           rw [ea] at ea'
           cases ea'
           obtain ⟨o1,o2⟩:=ok1.write q1 ea (g4.append (RelL.one rv'))
           exact ⟨a,xs,v,rfl,rfl,g3,by rw [g4.length];exact hz',post σ _ F1 (st.trans o2) o1⟩
         · cases ev
def rExtR (X:Cx):V→List V→Hp→VK→Prop:=fun x vs H Q=>∃ l b xs zs,x = .ref l∧vs = [.ref b]∧H l = some (.lst xs)∧LsB X.K H b zs∧xs.length+zs.length≤sizeLine∧Q .non (upd H l (.lst (xs++zs)))
theorem mt_extR:MtM X "list.extend" (rExtR X):=by
 intro pins s σ H x vs v us Q I rx rv h
 obtain ⟨l,b,xs,zs,rfl,rfl,hH,hB,hz,q⟩:=h
 cases rx
 obtain ⟨u,rfl,ru⟩:=rv.one
 cases ru
 obtain ⟨z,its,n,r,hl,e⟩:=I.lstM hH
 obtain ⟨its2,n2,r2,e2,z2⟩:=hB.obj I
 have hl2:=r2.length
 have s1:its.toArray.size = xs.length:=by rw [List.size_toArray];omega
 have s2:its2.toArray.size = zs.length:=by rw [List.size_toArray];omega
 refine call_meets F.slot_list_extend ⟨_,e,rfl⟩ F.entry_list_extend (F.args_list_extend_2 _ _) (AutoSeq1.list_extend_list_list_0 l its.toArray n b its2.toArray n2 ?_ (by rw [s1];omega) (by omega)) ⟨e,e2,?_⟩
 · rw [s1,s2,notLongL hz,Bool.and_false]
   exact Bool.false_ne_true
 · refine ⟨.non,_,I.lset (its':=its++its2) hH e (by simp) (r.append r2) (by rw [List.length_append];omega),rfl,q⟩
theorem sndS_extend {i:Nat} {e:E} {x:Str} {z:Expr} {p1 p2 ap cp:Pos} (C:Cok X c cx k) (hx:nameIs c i x = true) (hl:ap.endLine = cp.line) (hz:ckE c e z = true) (n:(!isPk e) = true) (he:PE X z (tE X.K cx e)) :
 PS X (.Expr (.Call (.Attribute (.Name x p1) "extend" ap) [z] [] cp) p2) (tS X.K (evS cx (.extend i e))):=by
 obtain ⟨n1,n2,n3,n4⟩:=C.name hx
 have hs:=head_star (ck_head hz) [] X.env
 have hA:PA X [z] (tEs X.K cx (.cons e .nil)):=snd_cons (by simp [npS]) he snd_nil hs
 refine PS.imp (ps_expr (pe_bm PySem.F.plainAttrs_list PySem.F.slot_list_extend PySem.F.type_list_extend mt_extR (pe_var n1 n2 n3 n4) hA rfl (few1 hz) (by simpa using hl) hs rfl)) fun E σ H ⟨G,F,δ,out,ok,ev,post⟩=>?_
 simp only [evS] at ev
 cases q:δ[i]? with
 | none=>rw [q] at ev;cases ev
 | some s =>
   rw [q] at ev
   cases s with
   | no=>cases ev
   | fnc _ _=>cases ev
   | odc _ _=>cases ev
   | val _=>cases ev
   | own ds0 =>
     simp only [Option.bind_eq_bind,Option.bind_eq_some_iff] at ev
     obtain ⟨⟨d,δ1⟩,e1,ev⟩:=ev
     obtain ⟨a,xs0,ea,f1,f2,f3,f4⟩:=ok.sl i _ q
     cases d with
     | lst ys =>
       dsimp only at ev
       cases q1:δ1[i]? with
       | none=>rw [q1] at ev;cases ev
       | some s1 =>
         rw [q1] at ev
         cases s1 with
         | no=>cases ev
         | fnc _ _=>cases ev
         | odc _ _=>cases ev
         | val _=>cases ev
         | own ds =>
           dsimp only at ev
           split at ev
           · rename_i hz'
             cases ev
             refine ⟨.ref a,ea,.inl ⟨rfl,xs0,.inl (.inl f3)⟩,G,F,δ,[.lst ys],δ1,ok,by simp [evEs,e1],fun vs H1 F1 st sm ok1 r=>?_⟩
             obtain ⟨d',ds',v,vs',ed,rfl,rv,rn⟩:=r
             cases ed
             obtain ⟨_,rfl⟩:=rn
             have rv':=rel_of n rv
             unfold Rel at rv'
             obtain ⟨b,zs,rfl,rb,rl⟩:=rv'
             obtain ⟨a',xs,ea',g1,g2,g3,g4⟩:=ok1.sl i _ q1
             rw [ea] at ea'
             cases ea'
             obtain ⟨o1,o2⟩:=ok1.write q1 ea (g4.append rl)
             exact ⟨a,b,xs,zs,rfl,rfl,g3,rb.b,by rw [g4.length,rl.length];exact hz',post σ _ F1 (st.trans o2) o1⟩
           · cases ev
     | _=>cases ev
theorem sndS_setix {i:Nat} {j e:E} {x:Str} {y z:Expr} {p1 p2 pos:Pos} (C:Cok X c cx k) (hx:nameIs c i x = true) (hy:ckE c e y = true) (n:(!isPk e) = true) (nc:(!isComp y) = true) (hz:ckE c j z = true) (nj:(!isPk j) = true) (he:PE X y (tE X.K cx e)) (hj:PE X z (tE X.K cx j)) :
 PS X (.Assign [.Subscript (.Name x p1) z p2] y pos) (tS X.K (evS cx (.setix i j e))):=by
 obtain ⟨n1,n2,n3,n4⟩:=C.name hx
 have nc':isComp y = false:=by simpa using nc
 have hh:=ck_head hz
 have hh2:=ck_head hy
 have ha:∀ v,assign (.Subscript (.Name x p1) z p2) X.env v = (do
  let ov ← holding [v] (eval (.Name x p1) X.env)
  let iv ← holding [v,ov] (eval z X.env)
  standAt p2
  holding [v,ov,iv] (setItem ov iv v)
  release [v,ov,iv] []):=by
  intro v
  cases z<;>first | rfl | (exact absurd hh Bool.false_ne_true)
 have hsw:swapsWithSole [.Subscript (.Name x p1) z p2] y pos.line X.env = pure false:=by
  cases y<;>first | rfl | (exact absurd hh2 Bool.false_ne_true) | (exact absurd nc'.symm Bool.false_ne_true)
 have hw:swappedStores [.Subscript (.Name x p1) z p2] y X.env = pure none:=by
  cases y<;>first | rfl | (exact absurd hh2 Bool.false_ne_true)
 refine PS.imp (ps_asg he (pg_sub (pe_var n1 n2 n3 n4) hj set_list ha) hsw hw rfl) fun E σ H ⟨G,F,δ,out,ok,ev,post⟩=>?_
 simp only [evS,Option.bind_eq_bind,Option.bind_eq_some_iff] at ev
 obtain ⟨⟨d,δ1⟩,e1,ev⟩:=ev
 dsimp only at ev
 refine ⟨G,F,δ,d,δ1,ok,e1,fun v H1 F1 st1 sm1 ok1 r1=>?_⟩
 cases q1:δ1[i]? with
 | none=>rw [q1] at ev;cases ev
 | some s1 =>
   rw [q1] at ev
   cases s1 with
   | no=>cases ev
   | fnc _ _=>cases ev
   | odc _ _=>cases ev
   | val _=>cases ev
   | own ds0 =>
     obtain ⟨a,xs0,ea,f1,f2,f3,f4⟩:=ok1.sl i _ q1
     simp only [Option.bind_eq_some_iff] at ev
     obtain ⟨⟨dj,δ2⟩,e2,ev⟩:=ev
     refine ⟨.ref a,ea,G,F1,δ1,dj,δ2,ok1,e2,fun w H2 F2 st2 sm2 ok2 r2=>?_⟩
     cases dj with
     | int m =>
       have:=r2.b.int
       subst this
       dsimp only at ev
       cases q2:δ2[i]? with
       | none=>rw [q2] at ev;cases ev
       | some s2 =>
         rw [q2] at ev
         cases s2 with
         | no=>cases ev
         | fnc _ _=>cases ev
         | odc _ _=>cases ev
         | val _=>cases ev
         | own ds =>
           dsimp only at ev
           obtain ⟨a',xs,ea',g1,g2,g3,g4⟩:=ok2.sl i _ q2
           rw [ea] at ea'
           cases ea'
           cases q3:ixN ds.length m with
           | none=>rw [q3] at ev;cases ev
           | some mm =>
             rw [q3] at ev
             cases ev
             have rv:=Rel.step ok1.fd st2 d v (rel_of n r1)
             obtain ⟨o1,o2⟩:=ok2.write q2 ea (RelL.set rv mm g4)
             exact ⟨a,xs,m,mm,rfl,rfl,g3,by rw [g4.length];exact q3,post σ _ F2 ((st1.trans st2).trans o2) o1⟩
     | _=>cases ev
theorem sndS_bad {x:Stmt}:PS X x (tS X.K (evS cx .bad)):=fun pins s σ H D I h=>by
 obtain ⟨G,F,δ,out,ok,ev,post⟩:=h
 rw [evS] at ev
 cases ev
theorem sndN {e:E} {y:Expr} (hm:newOk e = true) (C:Cok X c cx k) (h:ckE c e y = true):PE X y (tN X.K cx e):=by
 unfold newOk at hm
 split at hm
 · obtain ⟨_,_,rfl,hh⟩:=onLst_of h
   rw [Bool.and_eq_true] at hh
   exact sndN_lst hh.2 (sndEs _ X c _ C hh.1 (noPk_ok hh.2))
 · rename_i es
   obtain ⟨_,_,xs,_,rfl,hh⟩:=onCN_of h
   simp only [Bool.and_eq_true] at hh
   obtain ⟨⟨h1,h2⟩,h3⟩:=hh
   have e1:=of_decide_eq_true h1
   subst e1
   have h3:(!xs.isEmpty && ckEs c es xs && okEs es) = true:=h3
   simp only [Bool.and_eq_true] at h3
   cases xs with
   | nil=>simp at h3
   | cons y ys=>exact sndN_list C h2 (sndEs _ X c _ C h3.1.2 h3.2) h3.1.2
 · obtain ⟨_,_,_,rfl,hh⟩:=onSub_of h
   obtain ⟨_,_,o,_,rfl,h9⟩:=onSl_of hh
   simp only [Bool.and_eq_true] at h9
   obtain ⟨h0,⟨⟨h1,h2⟩,h3⟩,h4⟩:=h9
   obtain rfl:=Option.isNone_iff_eq_none.mp h0
   exact sndN_sl (by simpa using h4) (sndE _ X c _ C h1) (sndO _ X c _ C h2) (sndO _ X c _ C h3)
 · cases hm
end
section
variable {X:Cx} {c:Ck} {cx:Cl} {k:Nat}
theorem sndS_cmp (C:Cok X c cx k) (hS:X.env.scope = c.sc) (hB:X.env.blockKind = .function) {own:Bool} {i kk:Nat} {tg:Tg} {src:It} {ifs:Eo} {elt:E} {t:Str} {tp p sp:Pos} {ex:Expr} {gs:List Comprehension} {sc:Scope}
 (hn:nameTo c i t = true) (h:ckE c (.comp kk tg src ifs elt) (.ListComp ex gs sc p) = true) (hl:c.sc.names.lookup t = some .local) (hp:tp.line = p.line) (hz:(!(sc.names.any fun (n,k)=>n == t && (k == .local || k == .cell))) = true) :
 PS X (.Assign [.Name t tp] (.ListComp ex gs sc p) sp) (tS X.K (evS cx (.cmp own i (.comp kk tg src ifs elt)))):=by
 obtain ⟨n1,n2,n3⟩:=C.to hn
 obtain ⟨_,_,_,_,e,hh⟩:=onLC_of h
 cases e
 obtain ⟨_,rfl,h9⟩:=on1_of hh
 obtain ⟨tgt,it,il,rfl,h10⟩:=onG_of h9
 replace h:=h10
 · split at h
   · rename_i ts ht
     simp only [Bool.and_eq_true] at h
     obtain ⟨⟨⟨⟨⟨⟨⟨⟨h1,h2⟩,h3⟩,h4⟩,h5⟩,h6⟩,h7⟩,h8⟩,h9⟩:=h
     obtain ⟨nd,hvis⟩:=names_of' h4
     have hk:=tgNames_len (tg:=tg) (c:=c) (of_decide_eq_true h1)
     have hsw:swapsWith (.ListComp ex [⟨tgt,it,il,0⟩] sc p) (some (.Name t tp)) sp.line X.env = pure true:=by
      have e1:X.env.kindOf t = some .local:=by
       show X.env.scope.names.lookup t = some .local
       rw [hS];exact hl
      show (pure (X.env.blockKind == .function && X.env.kindOf t == some .local && tp.line == p.line && !(sc.names.any fun (n,k)=>n == t && (k == .local || k == .cell))):Sem Bool) = pure true
      rw [hB,e1,hp,hz]
      congr 1
      simp
     intro pins s σ H E I hq
     refine ps_lcomp (Nc:=maskN ts c.N++ts) (te:=tE X.K cx elt) (tt:=tG X.K cx ifs) (g:=gTg X.K tg) C.xe C.calm (scope_of C h3) (fun i x hi=>by rw [C.hN] at hi ⊢;exact hvis i x hi) (by rw [C.hN,hk];omega) (sndI src X c _ _ C h6)
      (fun cl Ca s H fp=>snd_tg (cok_block C h3 nd cl Ca s H fp) h5) (fun cl Ca s H fp=>sndG ifs _ _ _ (cok_block C h3 nd cl Ca s H fp) h7) (fun cl Ca s H fp=>sndE elt _ _ _ (cok_block C h3 nd cl Ca s H fp) h8) (fun v=>ckI_set h6 _ v)
      C.nd' n1 n2 n3 hsw pins s σ H E I ?_
     obtain ⟨G,F,δ,o,ok,ev,post⟩:=hq
     simp only [evS,Option.bind_eq_bind,Option.bind_eq_some_iff] at ev
     obtain ⟨⟨d,δ1⟩,e1,ev⟩:=ev
     cases d with
     | lst ds =>
       dsimp only at ev
       split at ev
       · rename_i hi
         cases ev
         refine comp_any C I h9 hk h2 ok e1 fun p ys xs H1 F1 H2 F2 e st1 st2 hp hg ok2 eD rl sm=>?_
         cases e
         show E.nx (σ.set i (some (.ref p))) H2
         cases own with
         | true =>
           refine post _ H2 F2 (st1.trans st2) ((ok2.keep).own hi (ok2.rf p (.inr rfl)) hg eD rl fun j s ej ho z=>?_)
           obtain ⟨a,u,d,e2,_,g2,_⟩:=SlOk.ow (ok2.sl j _ ej) ho
           rw [z] at e2
           cases e2
           exact g2.2 (.inr rfl)
         | false =>
           have st':Step G F1 H1 (fun b=>F2 b∧b≠p) H2:=⟨st2.keep,fun b z=>st2.grow b z.1,fun b o r f e=>by
            obtain ⟨a1,a2⟩:=st2.res b o r f e
            exact ⟨⟨a1,fun w=>by rw [w,hp] at e;cases e⟩,a2⟩,st2.tb⟩
           refine post _ H2 _ (st1.trans st') ((ok2.leave hg).set hi ?_)
           unfold Rel
           exact ⟨p,xs,rfl,.inl ⟨.inl eD,fun z=>z.2 rfl⟩,RelL.less ok2.fd (fun b z=>z.1) rl⟩
       · cases ev
     | _=>cases ev
   · cases h
end
section
variable {X:Cx} {c:Ck} {cx:Cl} {k:Nat} (C:Cok X c cx k) (hS:X.env.scope = c.sc) (hB:X.env.blockKind = .function)
include C hS hB
mutual
theorem sndS:∀ (s:S) (x:Stmt),ckS c s x = true→PS X x (tS X.K (evS cx s))
 | .asg tg e,x,h=>by
   obtain ⟨_,_,_,rfl,hq1⟩:=onAsg_of h
   obtain ⟨_,rfl,hq2⟩:=on1_of hq1
   replace h:=hq2
   · simp only [Bool.and_eq_true] at h
     obtain ⟨⟨⟨⟨h1,h2⟩,h3⟩,h4⟩,h5⟩:=h
     exact sndS_asg C h5 h1 h2 h3 h4 (sndE e X c _ C h2)
 | .new i e,x,h=>by
   obtain ⟨_,_,_,rfl,hq1⟩:=onAsg_of h
   obtain ⟨_,rfl,hq2⟩:=on1_of hq1
   obtain ⟨_,_,rfl,hq3⟩:=onName_of hq2
   replace h:=hq3
   · simp only [Bool.and_eq_true] at h
     obtain ⟨⟨⟨h1,h2⟩,h3⟩,h4⟩:=h
     exact sndS_new C h1 h2 h3 (sndN h4 C h2)
 | .cmp own i e,x,h=>by
   have h:(isCmpE e && _) = true:=h
   rw [Bool.and_eq_true] at h
   obtain ⟨h0,h⟩:=h
   cases e<;>first | (cases h0;done) | skip
   obtain ⟨_,_,_,rfl,hh⟩:=onAsg_of h
   obtain ⟨_,rfl,h2⟩:=on1_of hh
   obtain ⟨_,_,rfl,h3⟩:=onNP_of h2
   obtain ⟨_,_,_,_,rfl,h4⟩:=onLC_of h3
   simp only [Bool.and_eq_true] at h4
   obtain ⟨⟨⟨⟨a1,a2⟩,a3⟩,a4⟩,a5⟩:=h4
   exact sndS_cmp C hS hB a1 a2 (of_decide_eq_true a3) (of_decide_eq_true a4) a5
 | .ret e,x,h=>by
   obtain ⟨_,_,rfl,hq1⟩:=onRet_of h
   obtain ⟨_,rfl,hq2⟩:=onO_of hq1
   replace h:=hq2
   · rw [Bool.and_eq_true] at h
     exact sndS_ret h.2 (sndE e X c _ C h.1)
 | .retN,x,h=>by
   obtain ⟨y,_,rfl,hh⟩:=onRet_of h
   obtain rfl:=Option.isNone_iff_eq_none.mp hh
   exact sndS_retN
 | .ifs t a b,x,h=>by
   obtain ⟨_,_,_,_,rfl,hq1⟩:=onIfS_of h
   replace h:=hq1
   · simp only [Bool.and_eq_true] at h
     exact sndS_ifs (sndT t X c _ C h.1.1) (sndSs a _ h.1.2) (sndSs b _ h.2)
 | .for_ tg src body,x,h=>by
   obtain ⟨_,_,_,_,_,rfl,hq1⟩:=onFor_of h
   obtain ⟨rfl,hq2⟩:=on0_of hq1
   replace h:=hq2
   · simp only [Bool.and_eq_true] at h
     exact sndS_for C h.1.1 (sndI src X c _ _ C h.1.2) (fun v=>ckI_set h.1.2 _ v) (sndSs body _ h.2)
 | .forZ tg es body,x,h=>by
   obtain ⟨t,it,ys,z,p,rfl,h1⟩:=onFor_of h
   obtain ⟨rfl,h2⟩:=on0_of h1
   obtain ⟨n,np,xs,cp,rfl,h3⟩:=onCN_of h2
   obtain ⟨u,v,rfl,h4⟩:=on2_of h3
   simp only [Bool.and_eq_true] at h4
   obtain ⟨⟨⟨⟨⟨⟨a1,a2⟩,a3⟩,a4⟩,a5⟩,a6⟩,a7⟩:=h4
   have e:=of_decide_eq_true a2
   subst e
   exact sndS_forZ C a1 a4 (C.global a3).1 (C.blt _ (by decide +kernel)) (sndEs es X c _ C a5 (noPk_ok a6)) a5 a6 (sndSs body _ a7)
 | .while_ t body,x,h=>by
   obtain ⟨_,_,_,_,rfl,hq1⟩:=onWh_of h
   obtain ⟨rfl,hq2⟩:=on0_of hq1
   replace h:=hq2
   · rw [Bool.and_eq_true] at h
     exact sndS_while C (sndT t X c _ C h.1) (sndSs body _ h.2)
 | .append i e,x,h=>by
   obtain ⟨_,_,rfl,hh⟩:=onEx_of h
   obtain ⟨_,_,_,_,_,rfl,hln,h2⟩:=onM_of hh
   obtain ⟨_,_,rfl,h3⟩:=onName_of h2
   obtain ⟨_,rfl,h4⟩:=on1_of h3
   simp only [Bool.and_eq_true] at h4
   obtain ⟨⟨⟨a1,a2⟩,a3⟩,a4⟩:=h4
   have z:=of_decide_eq_true a1
   subst z
   exact sndS_append C a2 hln a3 a4 (sndE e X c _ C a3)
 | .extend i e,x,h=>by
   obtain ⟨_,_,rfl,hh⟩:=onEx_of h
   obtain ⟨_,_,_,_,_,rfl,hln,h2⟩:=onM_of hh
   obtain ⟨_,_,rfl,h3⟩:=onName_of h2
   obtain ⟨_,rfl,h4⟩:=on1_of h3
   simp only [Bool.and_eq_true] at h4
   obtain ⟨⟨⟨a1,a2⟩,a3⟩,a4⟩:=h4
   have z:=of_decide_eq_true a1
   subst z
   exact sndS_extend C a2 hln a3 a4 (sndE e X c _ C a3)
 | .setix i j e,x,h=>by
   obtain ⟨_,_,_,rfl,hq1⟩:=onAsg_of h
   obtain ⟨_,rfl,hq2⟩:=on1_of hq1
   obtain ⟨_,_,_,rfl,hq3⟩:=onSub_of hq2
   obtain ⟨_,_,rfl,hq4⟩:=onName_of hq3
   replace h:=hq4
   · simp only [Bool.and_eq_true] at h
     obtain ⟨⟨⟨⟨⟨h1,h2⟩,h3⟩,h4⟩,h5⟩,h6⟩:=h
     exact sndS_setix C h1 h2 h3 h4 h5 h6 (sndE e X c _ C h2) (sndE j X c _ C h5)
 | .opq _,x,h=>nomatch (h:false = true)
 | .bad,x,h=>sndS_bad
 | .pass,x,h=>by
   obtain ⟨_,⟨_,rfl⟩ | ⟨e,_⟩ | ⟨e,_⟩⟩:=isPB_of h
   · exact sndS_pass
   · cases e
   · cases e
 | .brk,x,h=>by
   obtain ⟨_,⟨e,_⟩ | ⟨_,rfl⟩ | ⟨e,_⟩⟩:=isPB_of h
   · cases e
   · exact sndS_brk
   · cases e
 | .cont,x,h=>by
   obtain ⟨_,⟨e,_⟩ | ⟨e,_⟩ | ⟨_,rfl⟩⟩:=isPB_of h
   · cases e
   · cases e
   · exact sndS_cont
theorem sndSs:∀ (ss:Ss) (xs:List Stmt),ckSs c ss xs = true→PSs X xs (tS X.K (evSs cx ss))
 | .nil,xs,h=>by
   obtain ⟨rfl,hq1⟩:=on0_of h
   replace h:=hq1
   · exact sndS_nil
 | .cons s ss,xs,h=>by
   obtain ⟨_,_,rfl,hq1⟩:=onS_of h
   replace h:=hq1
   · rw [Bool.and_eq_true] at h
     exact sndS_cons (sndS s _ h.1) (sndSs ss _ h.2)
end
end
end PP
end
section
namespace PP
open PySem L2 PyProof.Rows
variable [Tbs]
structure Dn (K:PySem.W.Frag) (mg:Str→Option Value) (cf:List (Str × List Str)) (gn:List Str) (fd:Fd) (st:Stmt) (a:Addr) (fdd:FuncData):Prop where
 fn:Fun K fd.name fd.name st a fdd
 mg:mg fd.name = some (.ref a)
 sc:FnScope (fd.ps++fd.loc) fd.ps (defScope st)
 ck:ckSs ⟨fd.ps++fd.loc,defScope st,cf,gn⟩ fd.body (defBody st) = true∨∀ (X:Cx) (cx:Cl) (k:Nat),Cok X ⟨fd.ps++fd.loc,defScope st,cf,gn⟩ cx k→X.env.scope = defScope st→X.env.blockKind = .function→X.K = K→PSs X (defBody st) (tS K (evSs cx fd.body))
 bd:Binds K fdd fd.ps []
def allDn (K:PySem.W.Frag) (mg:Str→Option Value) (cf:List (Str × List Str)) (gn:List Str):List Fd→Prop
 | []=>True
 | fd::r=>(∃ st a fdd,Dn K mg cf gn fd st a fdd)∧allDn K mg cf gn r
theorem allDn_get {K:PySem.W.Frag} {mg:Str→Option Value} {cf:List (Str × List Str)} {gn:List Str}:∀ {G:List Fd} {i:Nat} {fd:Fd},allDn K mg cf gn G→G[i]? = some fd→∃ st a fdd,Dn K mg cf gn fd st a fdd
 | [],_,_,_,e=>by simp at e
 | f::r,0,fd,h,e=>by
   cases e
   exact h.1
 | f::r,i+1,fd,h,e=>allDn_get (i:=i) h.2 (by simpa using e)
def cfOf (G:List Fd):List (Str × List Str):=G.map fun fd=>(fd.name,fd.ps)
structure Top (K:PySem.W.Frag) (mg:Str→Option Value) (G Gd:List Fd) (gl:List D) (gn:List Str):Prop where
 fns:allDn K mg (cfOf Gd) gn Gd
 sub:∀ (i:Nat) (fd:Fd),Gd[i]? = some fd→G[i]? = some fd
 few:G.length≤own0
 blt:∀ x,x∈bltNames→mg x = none
 glob:∀ (g:Nat) (x:Str) (d:D),gn[g]? = some x→gl[g]? = some d→∃ u v,mg x = some u∧RelV v u∧∀ H F,Rel K H F d v
 gsome:∀ (g:Nat) (x:Str),gn[g]? = some x→∃ d,gl[g]? = some d
theorem start_ok {K:PySem.W.Frag} {H:Hp} {F:Addr→Prop} {ds:List D} {vs:List V} {N:List Str} (fd:FD F H) (tf:TF F) (tb:Tabs H) (r:RelL K H F ds vs) (hl:vs.length≤N.length):Ok K ⟨H,fun b=>F b∧∃ o,H b = some o∧Mo o⟩ F (start N vs) H (init N.length ds):=by
 have hlen:=r.length
 have low:∀ (i:Nat) (s:Sl),(init N.length ds)[i]? = some s→s = .no∨∃ d,ds[i]? = some d∧s = .val d:=fun i s e=>by
  unfold init at e
  by_cases hi:i < ds.length
  · rw [List.getElem?_append_left (by simpa using hi),List.getElem?_map,List.getElem?_eq_getElem hi] at e
    cases e
    exact .inr ⟨_,List.getElem?_eq_getElem hi,rfl⟩
  · rw [List.getElem?_append_right (by simp;omega),List.getElem?_replicate] at e
    split at e
    · cases e;exact .inl rfl
    · cases e
 refine ⟨Sim.refl H,fd,fun b z=>z.1,fun b z=>z.2,tf,tb,?_,fun i s e=>?_,fun i j s t a e1 _ o1=>?_⟩
 · unfold init L2.start
   simp only [List.length_append,List.length_map,List.length_replicate]
   omega
 · rcases low i s e with rfl | ⟨d,e1,rfl⟩
   · trivial
   · obtain ⟨v,hv,rv⟩:=r.get e1
     refine ⟨v,?_,rv⟩
     unfold L2.start
     have hi:i < vs.length:=(List.getElem?_eq_some_iff.mp hv).1
     rw [List.getElem?_append_left (by simpa using hi),List.getElem?_map,hv]
     rfl
 · rcases low i _ e1 with z | ⟨d,_,z⟩<;>(subst z;cases o1)
theorem grow {K:PySem.W.Frag} {H H':Hp} {F F':Addr→Prop} {σ:L2.St} {δ:Loc} (hfd:FD F H) (ok:Ok K ⟨H,fun b=>F b∧∃ o,H b = some o∧Mo o⟩ F' σ H' δ) (b:Addr) (z:F b):F' b:=by
 obtain ⟨o,e,m | ⟨⟨ps,rfl⟩,t,ht,eb⟩⟩:=hfd b z
 · exact ok.rf b ⟨z,o,e,m⟩
 · rw [← eb];exact ok.tf t ht
theorem okC {P:Program} {w:World} {K:PySem.W.Frag} {mg:Str→Option Value} {base:Heap} {x qual:Str} {st:Stmt} {f:Addr} {fd:FuncData} {N ps:List Str} {k:Nat} {sp:Sp} (F:Fun K x qual st f fd) (S:FnScope N ps (defScope st)) (len:∀ vs H Q E,sp vs H Q E→vs.length = ps.length)
 (hbody:∀ (A:Around) (outer:List Env) (s:Shared) (H:Hp) (vs:List V) (Q:VK) (E:XK),Room k (A.deeper (envOfC qual (defScope st) s.heap.objs.size f fd.code))→sp vs H Q E →
   ∃ t,PSs (cxOf CX0 P w K mg base N qual (defScope st) f fd.code A outer s H E).nox (defBody st) t∧t { nx:=fun _ H'=>Q .non H',rt:=Q } (L2.start N vs) H):FnOk P w K mg base CX0 (k+1) f fd ps sp:=by
 obtain ⟨oc,od,kV,doc,pm,an,cdv,ct,osl,rfl,lk,hcd⟩:=F.ex
 refine fn_of lk hcd S len fun A outer s H vs Q E hr hsp=>?_
 obtain ⟨t,h,q⟩:=hbody A outer s H vs Q E hr hsp
 exact ⟨t,h.nox,q⟩
section
variable {P:Program} {w:World} {K:PySem.W.Frag} {mg:Str→Option Value} {base:Heap} {G Gd:List Fd} {gl:List D} {gn:List Str}
def BM (mg:Str→Option Value) (base:Heap):Prop:=∃ bm ob,mg "__builtins__" = some (.ref bm)∧bm≠builtinsNs∧base.get? bm = some ob∧ob.cls = .type "module"∧ob.dict = some builtinsNs∧ob.data = .plain
theorem run_inv {n i:Nat} {fd:Fd} (e:G[i]? = some fd) {ds:List D} {d:D} (h:run G gl (n+1) i ds = some d):ds.length = fd.ps.length∧∃ δ,entry fd.hf (fd.ps++fd.loc).length ds = some δ∧outD (evSs ⟨run G gl n,gl,hfs G⟩ fd.body δ) = some d:=by
 unfold run at h
 rw [e] at h
 dsimp only at h
 split at h
 · cases q:entry fd.hf (fd.ps++fd.loc).length ds with
   | none=>rw [q] at h;cases h
   | some δ=>rw [q] at h;exact ⟨‹_›,δ,rfl,h⟩
 · cases h
theorem own_inv {n i:Nat} {fd:Fd} (few:G.length≤own0) (e:G[i]? = some fd) {ds:List D} {d:D} (h:run G gl (n+1) (i+own0) ds = some d):ds.length = fd.ps.length∧∃ δ,entry fd.hf (fd.ps++fd.loc).length ds = some δ∧ownD (evSs ⟨run G gl n,gl,hfs G⟩ fd.body δ) = some d:=by
 unfold run at h
 rw [List.getElem?_eq_none (by omega)] at h
 dsimp only at h
 rw [Nat.add_sub_cancel,e] at h
 dsimp only at h
 split at h
 · cases q:entry fd.hf (fd.ps++fd.loc).length ds with
   | none=>rw [q] at h;cases h
   | some δ=>rw [q] at h;exact ⟨(‹_∧_›).2,δ,rfl,h⟩
 · cases h
theorem nofn_last {H:Hp} {F:Addr→Prop} {ds:List D} {vs:List V} (r:RelL K H F ds vs) {k:Nat} {cs:List D} (e:ds.getLast? = some (.fn k cs)):False:=by
 rw [List.getLast?_eq_getElem?] at e
 obtain ⟨v,_,rv⟩:=r.get e
 unfold Rel at rv
 exact rv
theorem all_ok (T:Top K mg G Gd gl gn) (hK:K.In base) (hB:BM mg base):∀ n:Nat,(∀ (i:Nat) (fd:Fd) (st:Stmt) (a:Addr) (fdd:FuncData),Gd[i]? = some fd→Dn K mg (cfOf Gd) gn fd st a fdd →
 FnOk P w K mg base CX0 n a fdd fd.ps (spF K (run G gl n i))∧FnOk P w K mg base CX0 n a fdd fd.ps (spO K (run G gl n (i+own0))))∧True
 | 0=>by
   have z:∀ i ds d,run G gl 0 i ds≠some d:=fun i ds d h=>by unfold run at h;cases h
   refine ⟨fun i fd st a fdd e _=>⟨⟨fun vs H Q E h=>?_,fun A outer s H args us vs Q E _ _ _ _ h=>?_⟩,⟨fun vs H Q E h=>?_,fun A outer s H args us vs Q E _ _ _ _ h=>?_⟩⟩,trivial⟩
   · obtain ⟨F,ds,d,_,_,_,_,h1,_⟩:=h;exact (z _ _ _ h1).elim
   · obtain ⟨F,ds,d,_,_,_,_,h1,_⟩:=h;exact (z _ _ _ h1).elim
   · obtain ⟨F,ds,d,_,_,_,_,h1,_⟩:=h;exact (z _ _ _ h1).elim
   · obtain ⟨F,ds,d,_,_,_,_,h1,_⟩:=h;exact (z _ _ _ h1).elim
 | n+1=>by
   obtain ⟨ih,_⟩:=all_ok T hK hB n
   have fns:∀ (f:Nat) (x:Str) (ps:List Str),(cfOf Gd)[f]? = some (x,ps)→∃ gd st a fdd,gd.name = x∧gd.ps = ps∧Gd[f]? = some gd∧Dn K mg (cfOf Gd) gn gd st a fdd:=fun f x ps hf=>by
    have hf':(Gd.map fun fd=>(fd.name,fd.ps))[f]? = some (x,ps):=hf
    rw [List.getElem?_map,Option.map_eq_some_iff] at hf'
    obtain ⟨gd,eg,ep⟩:=hf'
    cases ep
    obtain ⟨st',a',fdd',D'⟩:=allDn_get T.fns eg
    exact ⟨gd,st',a',fdd',rfl,rfl,eg,D'⟩
   have fn1:∀ (f:Nat) (x:Str) (ps:List Str),(cfOf Gd)[f]? = some (x,ps)→∃ a fd,mg x = some (.ref a)∧PySem.W.keepIn K (.ref a) = true∧Binds K fd ps []∧FnOk P w K mg base CX0 n a fd ps (spF K (run G gl n f)):=fun f x ps hf=>by
    obtain ⟨gd,st,a,fdd,rfl,rfl,eg,D'⟩:=fns f x ps hf
    exact ⟨a,fdd,D'.mg,D'.fn.kp,D'.bd,(ih f gd st a fdd eg D').1⟩
   have fn3:∀ (f:Nat) (x:Str) (ps:List Str),(cfOf Gd)[f]? = some (x,ps)→∃ a fd,mg x = some (.ref a)∧PySem.W.keepIn K (.ref a) = true∧Binds K fd ps []∧FnOk P w K mg base CX0 n a fd ps (spO K (run G gl n (f+own0))):=fun f x ps hf=>by
    obtain ⟨gd,st,a,fdd,rfl,rfl,eg,D'⟩:=fns f x ps hf
    exact ⟨a,fdd,D'.mg,D'.fn.kp,D'.bd,(ih f gd st a fdd eg D').2⟩
   refine ⟨fun i fd st a fdd e Dd=>?_,trivial⟩
   · have eG:=T.sub i fd e
     have C:∀ (A:Around) (outer:List Env) (s:Shared) (H:Hp) (E:XK),Room n (A.deeper (envOfC fd.name (defScope st) s.heap.objs.size a fdd.code)) →
      Cok (cxOf CX0 P w K mg base (fd.ps++fd.loc) fd.name (defScope st) a fdd.code A outer s H E).nox ⟨fd.ps++fd.loc,defScope st,cfOf Gd,gn⟩ ⟨run G gl n,gl,hfs G⟩ n:=fun A outer s H E hr =>
      ⟨rfl,Dd.sc.nd,fun x hx=>hx,fun x hx=>hx,fun x hx=>⟨hx,.inl rfl⟩,fun x hx=>hx,rfl,rfl,hr,fn1,fn3,T.blt,T.glob,T.gsome⟩
     have B:∀ (A:Around) (outer:List Env) (s:Shared) (H:Hp) (E:XK),Room n (A.deeper (envOfC fd.name (defScope st) s.heap.objs.size a fdd.code)) →
      PSs (cxOf CX0 P w K mg base (fd.ps++fd.loc) fd.name (defScope st) a fdd.code A outer s H E).nox (defBody st) (tS K (evSs ⟨run G gl n,gl,hfs G⟩ fd.body)):=fun A outer s H E hr=>by
      have hblk:(cxOf CX0 P w K mg base (fd.ps++fd.loc) fd.name (defScope st) a fdd.code A outer s H E).nox.env.blockKind = .function:=by
       unfold Env.blockKind
       show (if (defScope st).kind.isAnnotationScope then ScopeKind.function else (defScope st).kind) = _
       rw [Dd.sc.kind]
       rfl
      rcases Dd.ck with ck | oq
      · exact sndSs (cx:=⟨run G gl n,gl,hfs G⟩) (C A outer s H E hr) rfl hblk fd.body (defBody st) ck
      · exact oq _ _ n (C A outer s H E hr) rfl hblk rfl
     have fin:∀ {F:Addr→Prop} {H:Hp} {σ:L2.St} {δ:Loc} {d:D} {Q:VK} {E:XK} (hfd:FD F H) (htf:TF F) (ok:Ok K ⟨H,fun b=>F b∧∃ o,H b = some o∧Mo o⟩ F σ H δ) (h2:outD (evSs ⟨run G gl n,gl,hfs G⟩ fd.body δ) = some d) (q:∀ v H',Sim H H'→Tabs H'→Rel K H' F d v→Q v H'),
      tS K (evSs ⟨run G gl n,gl,hfs G⟩ fd.body) { nx:=fun _ H'=>Q .non H',rt:=Q } σ H:=fun {F H σ δ d Q E} hfd htf ok h2 q=>by
      cases eo:evSs ⟨run G gl n,gl,hfs G⟩ fd.body δ with
      | none=>rw [eo] at h2;cases h2
      | some o =>
        rw [eo] at h2
        refine ⟨⟨H,fun b=>F b∧∃ o,H b = some o∧Mo o⟩,F,_,o,ok,eo,?_⟩
        cases o with
        | nx δ =>
          cases h2
          exact fun σ' H' F' st' ok'=>q .non H' ok'.same ok'.tabs rel_non
        | rt d' δ =>
          cases h2
          refine fun v σ' H' F' st' ok' r'=>q v H' ok'.same ok'.tabs (Rel.step (G:=g0) ok'.fd ⟨fun _ _ _ e _=>e,fun b z=>?_,fun _ _ r _ _=>r.elim,fun _ ps e=>⟨ps,e⟩⟩ _ v r')
          exact .inl (grow hfd ok' b z)
        | ro ds' δ =>
          cases h2
          refine fun a xs σ' H' F' st' ok' f1 f2 hs r'=>q _ H' ok'.same ok'.tabs ?_
          exact RelO.rel ok'.fd (grow hfd ok') (not_F hfd f2.1) hs r'
        | bk δ=>cases h2
        | ct δ=>cases h2
     have fiO:∀ {F:Addr→Prop} {H:Hp} {σ:L2.St} {δ:Loc} {zs:D} {Q:VK} (hfd:FD F H) (htf:TF F) (ok:Ok K ⟨H,fun b=>F b∧∃ o,H b = some o∧Mo o⟩ F σ H δ) (h2:ownD (evSs ⟨run G gl n,gl,hfs G⟩ fd.body δ) = some zs) (q:∀ a u H',Sim H H'→Tabs H'→H a = none→H' a = some u→RelO K H' (fun b=>F b∨b = a) zs u→Q (.ref a) H'),
      tS K (evSs ⟨run G gl n,gl,hfs G⟩ fd.body) { nx:=fun _ H'=>Q .non H',rt:=Q } σ H:=fun {F H σ δ zs Q} hfd htf ok h2 q=>by
      cases eo:evSs ⟨run G gl n,gl,hfs G⟩ fd.body δ with
      | none=>rw [eo] at h2;cases h2
      | some o =>
        rw [eo] at h2
        refine ⟨⟨H,fun b=>F b∧∃ o,H b = some o∧Mo o⟩,F,_,o,ok,eo,?_⟩
        cases o with
        | ro ds' δ =>
          cases h2
          refine fun a xs σ' H' F' st' ok' f1 f2 hs r'=>q a xs H' ok'.same ok'.tabs f2.1 hs ?_
          have gr:∀ b,(F b∨b = a)→F' b:=fun b z=>by
           rcases z with z | z
           · exact grow hfd ok' b z
           · rw [z];exact f1
          exact RelO.step (G:=g0) ok'.fd ⟨fun _ _ _ e _=>e,fun b z=>.inl (gr b z),fun _ _ r _ _=>r.elim,fun _ ps e=>⟨ps,e⟩⟩ r'
        | _=>cases h2
     refine ⟨okC Dd.fn Dd.sc (fun vs H Q E h=>?_) fun A outer s H vs Q E hr h=>?_,okC Dd.fn Dd.sc (fun vs H Q E h=>?_) fun A outer s H vs Q E hr h=>?_⟩
     · obtain ⟨F,ds,d,_,_,_,r,h1,_⟩:=h
       rw [r.length,(run_inv eG h1).1]
     · obtain ⟨F,ds,d,hfd,htf,htb,r,h1,q⟩:=h
       obtain ⟨hl,δ,ed,h2⟩:=run_inv eG h1
       have hlen:=r.length
       refine ⟨_,B A outer s H E hr,?_⟩
       unfold entry at ed
       split at ed
       · cases ed
         exact fin (E:=E) hfd htf (start_ok hfd htf htb r (by rw [hlen,hl,List.length_append];omega)) h2 q
       · split at ed
         · rename_i eq
           exact (nofn_last r eq).elim
         · cases ed
     · obtain ⟨F,ds,zs,_,_,_,r,h1,_⟩:=h
       rw [r.length,(own_inv T.few eG h1).1]
     · obtain ⟨F,ds,zs,hfd,htf,htb,r,h1,q⟩:=h
       obtain ⟨hl,δ,ed,h2⟩:=own_inv T.few eG h1
       have hlen:=r.length
       refine ⟨_,B A outer s H E hr,?_⟩
       unfold entry at ed
       split at ed
       · cases ed
         exact fiO hfd htf (start_ok hfd htf htb r (by rw [hlen,hl,List.length_append];omega)) h2 q
       · split at ed
         · rename_i eq
           exact (nofn_last r eq).elim
         · cases ed
end
end PP
end
section
namespace PP
open PySem L2 PyProof.Rows
variable [Tbs]
def hS (a:Addr) (o:Option HO):Hp:=fun b=>if b = a∧o.isSome = true then o else if b∈Tbs.ts.map (·.1) then some (.tbl #[]) else none
theorem hS_inv {a b:Addr} {o:Option HO} {u:HO} (e:hS a o b = some u):(b = a∧o = some u)∨(b∈Tbs.ts.map (·.1)∧u = .tbl #[]):=by
 unfold hS at e
 split at e
 · rename_i h;exact .inl ⟨h.1,e⟩
 · split at e
   · cases e;exact .inr ⟨‹_›,rfl⟩
   · cases e
theorem law_run {P:Program} {w:World} {K:PySem.W.Frag} {mg mb:Str→Option Value} {fa a:Addr} {fd:FuncData} {x:Str} {f:List D→Option D} {s₁:Shared} {vs:List Value} {ns:List Int}
 (KX:K.In s₁.heap) (hns:s₁.heap.Ns mainGlobals mg) (hb:s₁.heap.Ns builtinsNs mb) (hbb:∀ x:Str,x≠"__name__"→mb x = bootBuiltins x) (hlim:s₁.heap.NoLimit) (hg:s₁.gens = #[]) (hbm:BM mg s₁.heap)
 (ha:s₁.heap.get? a = some { cls:=.type "list",data:=.seq vs.toArray }) (hi:IntsAre vs ns) (hl:ns.length≤sizeLine) (hr:Room 200 callerA)
 (ht:∀ t∈Tbs.ts,s₁.heap.get? t.1 = some (PySem.W.tabObj #[])∧K.lookup t.1 = none∧isCodeTable s₁.heap t.1)
 (F:∀ base:Heap,K.In base→BM mg base→FnOk P w K mg base CX0 200 fa fd [x] (spF K f)) (hbind:∀ (s:Shared) (u:Value),BindsTo s fd ⟨[u],[]⟩ [(x,u)])
 (hf:f [.lst (ns.map .int)] = some (.bl true)) :
 codeAny (model P w) callerA (.call (.ref fa) ⟨[.ref a],[]⟩) (fun r s'=>r = .ok (.ret (.bool true))∧OldK s₁.heap s'.heap∧s'.os = s₁.os∧AllBare s'.gens) s₁:=by
 have rv:=vals_ints hi
 have lenV:=hi.length
 have htm:∀ b,b∈Tbs.ts.map (·.1)→s₁.heap.get? b = some (PySem.W.tabObj #[])∧K.lookup b = none∧isCodeTable s₁.heap b:=fun b hb=>by
  obtain ⟨t,h1,h2⟩:=List.mem_map.mp hb
  rw [← h2];exact ht t h1
 have aT:a∉Tbs.ts.map (·.1):=fun z=>by
  have:=(htm a z).1
  rw [ha] at this
  cases this
 have core:∀ o:Option HO,(∀ u,o = some u→∃ xs,u = .frz { cls:=.type "list",data:=.seq vs.toArray } (.lst xs))→HOk P w (hS a o) s₁.heap→(o≠none→K.lookup a = none)→Rel K (hS a o) (fun b=>b∈Tbs.ts.map (·.1)) (.lst (ns.map .int)) (.ref a) →
  codeAny (model P w) callerA (.call (.ref fa) ⟨[.ref a],[]⟩) (fun r s'=>r = .ok (.ret (.bool true))∧OldK s₁.heap s'.heap∧s'.os = s₁.os∧AllBare s'.gens) s₁:=by
  intro o hO hok hK hR
  have base_of:∀ {b:Addr} {x:Obj},s₁.heap.get? b = some x→hS a o b = none→(hidT s₁.heap (hS a o)).get? b = some x:=fun e n=>hidT_get e n
  have noA:∀ {b:Addr} {x:Obj},s₁.heap.get? b = some x→(∀ its n,x.data≠.seq its n)→(∀ vs,x.data≠.fields vs)→hS a o b = none:=fun {b x} e d1 d2=>by
   cases q:hS a o b with
   | none=>rfl
   | some u =>
     rcases hS_inv q with ⟨rfl,_⟩ | ⟨z,_⟩
     · rw [ha] at e;cases e;exact absurd rfl (d1 _ _)
     · rw [(htm b z).1] at e;cases e;exact absurd rfl (d2 _)
  have nsK:∀ {b:Addr} {m:Str→Option Value},s₁.heap.Ns b m→(hidT s₁.heap (hS a o)).Ns b m:=fun {b m} ⟨x,es,ep,e,d,r⟩=>⟨x,es,ep,base_of e (noA e (fun _ _ z=>by rw [d] at z;cases z) fun _ z=>by rw [d] at z;cases z),d,r⟩
  have hKb:K.In (hidT s₁.heap (hS a o)):=fun b x e=>base_of (KX b x e) (by
   cases q:hS a o b with
   | none=>rfl
   | some u =>
     rcases hS_inv q with ⟨rfl,z⟩ | ⟨z,_⟩
     · rw [hK (by rw [z];simp)] at e;cases e
     · rw [(htm b z).2.1] at e;cases e)
  have hM:Mod K mg (hidT s₁.heap (hS a o)):=⟨hKb,nsK hns,⟨mb,nsK hb,hbb⟩,let ⟨mc,h1,h2⟩:=hlim;⟨mc,nsK h1,h2⟩⟩
  have hB:BM mg (hidT s₁.heap (hS a o)):=by
   obtain ⟨bm,ob,b1,b2,b3,b4,b5,b6⟩:=hbm
   exact ⟨bm,ob,b1,b2,base_of b3 (noA b3 (fun _ _ z=>by rw [b6] at z;cases z) fun _ z=>by rw [b6] at z;cases z),b4,b5,b6⟩
  have e0:Env0 P w K mg (hidT s₁.heap (hS a o)) callerA [] s₁ (hS a o):=⟨rfl,hM,fun b x e=>of_hidT e,Nat.le_of_eq (hidT_size _ _),trivial,fun b hb=>absurd (show b∈([]:List Addr) from hb) (by simp),hok,.of_eq hg⟩
  have atT:∀ b,b∈Tbs.ts.map (·.1)→hS a o b = some (.tbl #[]):=fun b z=>by
   unfold hS
   rw [if_neg (fun y=>aT (by rw [← y.1];exact z)),if_pos z]
  have sp:spF K f [.ref a] (hS a o) (fun v _=>v = .bl true) E0:=⟨fun b=>b∈Tbs.ts.map (·.1),[.lst (ns.map .int)],.bl true,fun b z=>by
   obtain ⟨t,h1,h2⟩:=List.mem_map.mp z
   exact ⟨_,atT b z,.inr ⟨⟨#[],rfl⟩,t,h1,h2⟩⟩,fun t h=>List.mem_map.mpr ⟨t,h,rfl⟩,fun t h=>⟨#[],atT _ (List.mem_map.mpr ⟨t,h,rfl⟩),trivial,fun pos cv e=>by cases e⟩,RelL.one hR,hf,fun v H' _ _ r=>by unfold Rel at r;exact r⟩
  refine codeAny_mono ((F _ hKb hB).run callerA [] s₁ (hS a o) ⟨[.ref a],[]⟩ [.ref a] [.ref a] _ _ hr e0 (hbind s₁ (.ref a)) (.cons rfl .nil) sp) fun r s' h=>?_
  cases r with
  | error e=>exact False.elim h
  | ok fl =>
    cases fl with
    | next=>exact False.elim h
    | brk=>exact False.elim h
    | cont=>exact False.elim h
    | ret u =>
      obtain ⟨v,H',os,bare,un,hok',r',q⟩:=h
      have q':v = .bl true:=q
      subst q'
      obtain rfl:u = Value.bool true:=r'
      refine ⟨rfl,⟨fun b x e=>?_,fun b x e=>un.there b x e (by simp)⟩,os,bare⟩
      cases q:hS a o b with
      | none=>exact .inl (un.keep b x e q (by intro z;exact absurd (show b∈([]:List Addr) from z) (by simp)) (by simp))
      | some u =>
        rcases hS_inv q with ⟨_,z⟩ | ⟨z,rfl⟩
        · obtain ⟨xs,rfl⟩:=hO u z
          have z2:=un.frzs b _ _ q
          obtain ⟨e1,_⟩:=hok b _ q
          obtain ⟨e2,_⟩:=hok' b _ z2
          rw [e] at e1;cases e1
          exact .inl e2
        · obtain ⟨more,y⟩:=un.tbls b _ q
          have e2:s'.heap.get? b = some { cls:=.none,data:=.fields (#[]++more) }:=hok' b _ y
          have e1:=(htm b z).1
          rw [e] at e1;cases e1
          exact .inr (.inl ⟨(htm b z).2.2,rfl,#[],more,rfl,e2⟩)
 have rl:∀ (H:Hp) (F:Addr→Prop) (ms:List Int),RelL K H F (ms.map .int) (ms.map V.int):=by
  intro H F ms
  induction ms with
  | nil=>exact RelL.nil
  | cons m ms ih=>exact RelL.cons (rel_int m) ih
 have hok1:∀ o:Option HO,(∀ u,o = some u→ObjOk P w (hS a o) s₁.heap a u)→HOk P w (hS a o) s₁.heap:=fun o ho b u e=>by
  rcases hS_inv e with ⟨rfl,z⟩ | ⟨z,rfl⟩
  · exact ho u z
  · exact (htm b z).1
 cases hk:K.lookup a with
 | some x =>
   have e:=KX a x hk
   rw [ha] at e
   cases e
   refine core none (fun u z=>by cases z) (hok1 none fun u z=>by cases z) (fun z=>absurd rfl z) ?_
   unfold Rel
   exact ⟨a,ns.map V.int,rfl,.inr ⟨vs.toArray,_,hk,by rw [List.size_toArray,lenV];exact hl,by simpa using rv⟩,rl _ _ ns⟩
 | none =>
   refine core (some (.frz { cls:=.type "list",data:=.seq vs.toArray } (.lst (ns.map V.int)))) (fun u z=>⟨_,(Option.some.inj z).symm⟩) (hok1 _ fun u z=>?_) (fun _=>hk) ?_
   · cases z
     exact ⟨ha,by rw [List.length_map];exact hl,vs,_,rv,ha⟩
   · unfold Rel
     refine ⟨a,ns.map V.int,rfl,.inl ⟨.inr ⟨{ cls:=.type "list",data:=.seq vs.toArray },?_⟩,aT⟩,rl _ _ ns⟩
     unfold hS
     rw [if_pos ⟨rfl,rfl⟩]
theorem walk_run {l:PySem.W.OpenLaw} {q:Program} {loose:List Str} {XP:(Str→Option Value)→Heap→Prop} {YP:World→Heap→Prop} {d:DefRec} {K:Params→PySem.W.Frag} {G Gd:List Fd} {gl:List D} {gn:List Str} {i:Nat} {fd:Fd} {x:Str}
 (main:∀ ns:List Int,ns.length≤63→run G gl 200 i [.lst (ns.map .int)] = some (.bl true)) (hi:Gd[i]? = some fd) (hp:fd.ps = [x])
 (hn:l.most = some 63) (hdf:d.params.defaults = []) (hY:∀ (w:World) (h:Heap),YP w h→(K w.params).In h∧∀ t∈Tbs.ts,h.get? t.1 = some (PySem.W.tabObj #[]))
 (F:∀ (w:World) (mg:Str→Option Value) (fa:Addr) (h:Heap),(K w.params).In h→h.Ns mainGlobals mg→mg d.name = some (.ref fa) →
   ∃ (st:Stmt) (fdd:FuncData),(∀ (s:Shared) (u:Value),BindsTo s fdd ⟨[u],[]⟩ [(x,u)])∧Top (K w.params) mg G Gd gl gn∧Dn (K w.params) mg (cfOf Gd) gn fd st fa fdd∧∀ t∈Tbs.ts,(K w.params).lookup t.1 = none∧∃ c,PySem.W.codeHdIn (K w.params) c t.1 = true) :
 PySem.W.WalkO q loose XP YP l.row.toRowW d [] (fun f vs=>PySem.call f vs):=by
 have hr:Room 200 callerA:=⟨rfl,by decide,by decide⟩
 refine Att.attach_call hn hdf fun w s₀ s₁ mg mb fa o pm cd doc a vs ns TT Y ho hd hcd hmg hobj hints hlen hg=>?_
 obtain ⟨KX,tabs⟩:=hY w _ Y
 obtain ⟨st,fdd,hb,T,Dd,tc⟩:=F w mg fa _ KX TT.T.g hmg
 refine law_run KX TT.T.g TT.T.b TT.T.builtins TT.T.nolimit hg TT.T.bmain hobj hints (Nat.le_trans hlen (by decide)) hr (fun t ht=>?_) (fun base hK hB=>?_) hb (main ns hlen)
 · obtain ⟨h1,c,h2⟩:=tc t ht
   exact ⟨tabs t ht,h1,((PySem.W.codeHd_of_K KX h2).tab (tabs t ht)).isCodeTable⟩
 · have:=((all_ok (P:=l.prog) (w:=w) (base:=base) T hK hB 200).1 i fd st fa fdd hi Dd).1
   rw [hp] at this
   exact this
section
theorem usS {α:Type} {P:List α→Prop} {k:Nat} (h:∀ a us,us.length = k→P (a::us)):∀ us,us.length = k+1→P us
 | [],e=>by cases e
 | a::us,e=>h a us (Nat.succ.inj e)
theorem us0 {α:Type} {P:List α→Prop} (h:P []) (us:List α) (e:us.length = 0):P us:=List.length_eq_zero_iff.mp e▸h
variable {fd:FuncData} {ps:List Str}
theorem us1 (h:∀ a,bindArgs fd ⟨[a],[]⟩ = pure (ps.zip [a])):∀ us:List Value,us.length = 1→bindArgs fd ⟨us,[]⟩ = pure (ps.zip us) :=
 usS (P:=fun us=>bindArgs fd ⟨us,[]⟩ = pure (ps.zip (us))) fun a=>us0 (P:=fun us=>bindArgs fd ⟨a::us,[]⟩ = pure (ps.zip (a::us))) (h a)
theorem us2 (h:∀ a b,bindArgs fd ⟨[a,b],[]⟩ = pure (ps.zip [a,b])):∀ us:List Value,us.length = 2→bindArgs fd ⟨us,[]⟩ = pure (ps.zip us) :=
 usS (P:=fun us=>bindArgs fd ⟨us,[]⟩ = pure (ps.zip (us))) fun a=>usS (P:=fun us=>bindArgs fd ⟨a::us,[]⟩ = pure (ps.zip (a::us))) fun b=>us0 (P:=fun us=>bindArgs fd ⟨a::b::us,[]⟩ = pure (ps.zip (a::b::us))) (h a b)
theorem us3 (h:∀ a b c,bindArgs fd ⟨[a,b,c],[]⟩ = pure (ps.zip [a,b,c])):∀ us:List Value,us.length = 3→bindArgs fd ⟨us,[]⟩ = pure (ps.zip us) :=
 usS (P:=fun us=>bindArgs fd ⟨us,[]⟩ = pure (ps.zip (us))) fun a=>usS (P:=fun us=>bindArgs fd ⟨a::us,[]⟩ = pure (ps.zip (a::us))) fun b=>usS (P:=fun us=>bindArgs fd ⟨a::b::us,[]⟩ = pure (ps.zip (a::b::us))) fun c=>us0 (P:=fun us=>bindArgs fd ⟨a::b::c::us,[]⟩ = pure (ps.zip (a::b::c::us))) (h a b c)
theorem us4 (h:∀ a b c d,bindArgs fd ⟨[a,b,c,d],[]⟩ = pure (ps.zip [a,b,c,d])):∀ us:List Value,us.length = 4→bindArgs fd ⟨us,[]⟩ = pure (ps.zip us) :=
 usS (P:=fun us=>bindArgs fd ⟨us,[]⟩ = pure (ps.zip (us))) fun a=>usS (P:=fun us=>bindArgs fd ⟨a::us,[]⟩ = pure (ps.zip (a::us))) fun b=>usS (P:=fun us=>bindArgs fd ⟨a::b::us,[]⟩ = pure (ps.zip (a::b::us))) fun c=>usS (P:=fun us=>bindArgs fd ⟨a::b::c::us,[]⟩ = pure (ps.zip (a::b::c::us))) fun d=>us0 (P:=fun us=>bindArgs fd ⟨a::b::c::d::us,[]⟩ = pure (ps.zip (a::b::c::d::us))) (h a b c d)
end
end PP
end
section
namespace PP
open PySem L2
def takeS:Nat→Ss→Ss
 | 0,_=>.nil
 | _,.nil=>.nil
 | k+1,.cons s ss=>.cons s (takeS k ss)
def dropS:Nat→Ss→Ss
 | 0,ss=>ss
 | _,.nil=>.nil
 | k+1,.cons _ ss=>dropS k ss
def nxS (R:PP.Loc→Prop) (Q:Out→Prop):Out→Prop
 | .nx δ=>R δ
 | o=>Q o
theorem nxS_nx {R:PP.Loc→Prop} {Q:Out→Prop} {δ:PP.Loc}:nxS R Q (.nx δ)↔R δ:=Iff.rfl
theorem wS_mono {cx:Cl} {s:S} {δ:PP.Loc} {P Q:Out→Prop} (h:wS cx s δ P) (k:∀ o,P o→Q o):wS cx s δ Q:=let ⟨o,e,p⟩:=h;⟨o,e,k o p⟩
theorem wSs_cut {cx:Cl} {Q:Out→Prop} {R:PP.Loc→Prop}:∀ (k:Nat) (ss:Ss) (δ:PP.Loc),wSs cx (takeS k ss) δ (nxS R Q)→(∀ δ',R δ'→wSs cx (dropS k ss) δ' Q)→wSs cx ss δ Q
 | 0,ss,δ,h,q=>by
   unfold takeS at h
   exact q δ (wSs_nil.mp h)
 | _+1,.nil,δ,h,q=>by
   unfold takeS at h
   unfold dropS at q
   exact q δ (wSs_nil.mp h)
 | k+1,.cons s ss,δ,h,q=>by
   unfold takeS at h
   unfold dropS at q
   refine wSs_cons.mpr (wS_mono (wSs_cons.mp h) fun o p=>?_)
   cases o with
   | nx δ1=>exact wSs_cut k ss δ1 p q
   | rt d δ1=>exact p
   | bk δ1=>exact p
   | ct δ1=>exact p
   | ro d δ1=>exact p
theorem wSs_run {cx:Cl} {ss:Ss} {δ:PP.Loc} {Q:Out→Prop} (k:Nat) (δ':PP.Loc) (h:evSs cx (takeS k ss) δ = some (.nx δ')) (q:wSs cx (dropS k ss) δ' Q):wSs cx ss δ Q:=wSs_cut (R:=fun d=>d = δ') k ss δ ⟨.nx δ',h,rfl⟩ fun _ e=>e▸q
theorem wS_if' {cx:Cl} {c:E} {a b:Ss} {δ δ0:PP.Loc} {Q:Out→Prop} (P:Bool→Prop) (h:wT cx c δ fun k δ1=>δ1 = δ0∧P k) (ha:P true→wSs cx a δ0 Q) (hb:P false→wSs cx b δ0 Q):wS cx (.ifs c a b) δ Q:=by
 obtain ⟨k,δ1,e,rfl,p⟩:=h
 refine wS_ifs.mpr ⟨k,δ1,e,?_⟩
 cases k
 · exact hb p
 · exact ha p
theorem iteI {c A B:Prop} [Decidable c] (h1:c→A) (h2:¬ c→B):if c then A else B:=by
 by_cases h:c
 · rw [if_pos h];exact h1 h
 · rw [if_neg h];exact h2 h
end PP
end
section
namespace PP
open PySem
mutual
theorem eqD_iff:∀ (a b:D),hb a = true→hb b = true→(eqD a b = true↔a = b)
 | .str x,.str y,_,_=>by unfold eqD;simp
 | .int x,.int y,_,_=>by unfold eqD;simp
 | .tup xs,.tup ys,h1,h2=>by
   unfold hb at h1 h2
   unfold eqD
   rw [eqDs_iff xs ys h1 h2]
   simp
 | .str _,.int _,_,_ | .str _,.tup _,_,_ | .int _,.str _,_,_ | .int _,.tup _,_,_ | .tup _,.str _,_,_ | .tup _,.int _,_,_=>by unfold eqD;simp
 | .non,_,h,_ | .bl _,_,h,_ | .lst _,_,h,_ | .fn _ _,_,h,_ | .dct _ _,_,h,_=>by unfold hb at h;cases h
 | _,.non,_,h | _,.bl _,_,h | _,.lst _,_,h | _,.fn _ _,_,h | _,.dct _ _,_,h=>by unfold hb at h;cases h
theorem eqDs_iff:∀ (a b:List D),hbL a = true→hbL b = true→(eqDs a b = true↔a = b)
 | [],[],_,_=>by unfold eqDs;simp
 | [],_::_,_,_=>by unfold eqDs;simp
 | _::_,[],_,_=>by unfold eqDs;simp
 | x::xs,y::ys,h1,h2=>by
   unfold hbL at h1 h2
   rw [Bool.and_eq_true] at h1 h2
   unfold eqDs
   rw [Bool.and_eq_true,eqD_iff x y h1.1 h2.1,eqDs_iff xs ys h1.2 h2.2]
   simp
end
def ltS (a b:Str):Bool:=decide (a.cps.toList < b.cps.toList)
theorem ltS_as (a b:Str) (h:ltS a b = true):ltS b a = false:=by
 unfold ltS at h ⊢
 rw [decide_eq_true_eq] at h
 rw [decide_eq_false_iff_not]
 exact List.lt_asymm h
theorem ltS_tr (a b c:Str) (h1:ltS b a = false) (h2:ltS c b = false):ltS c a = false:=by
 unfold ltS at h1 h2 ⊢
 rw [decide_eq_false_iff_not] at h1 h2 ⊢
 exact List.le_trans h1 h2
theorem ltS_eq (a b:Str) (h1:ltS a b = false) (h2:ltS b a = false):a = b:=by
 unfold ltS at h1 h2
 rw [decide_eq_false_iff_not] at h1 h2
 have:=List.le_antisymm h2 h1
 obtain ⟨⟨x⟩⟩:=a
 obtain ⟨⟨y⟩⟩:=b
 simp at this
 rw [this]
theorem up_pair {α:Type} [Inhabited α] {lt:α→α→Bool} {ys:List α} (h:∀ i j,i≤j→j < ys.length→lt (ys.getD j default) (ys.getD i default) = false):ys.Pairwise fun a b=>lt b a = false:=by
 rw [List.pairwise_iff_getElem]
 intro i j hi hj hij
 have:=h i j (Nat.le_of_lt hij) hj
 simpa [List.getD,List.getElem?_eq_getElem hi,List.getElem?_eq_getElem hj] using this
theorem ltD_inv {a b:D} {k:Bool} (h:ltD a b = some k):(∃ i j:Int,a = .int i∧b = .int j∧k = decide (i < j))∨(∃ s t:Str,a = .str s∧b = .str t∧k = ltS s t)∨∃ xs ys,a = .tup xs∧b = .tup ys∧ltDs xs ys = some k:=by
 unfold ltD at h
 split at h
 · cases h;exact .inl ⟨_,_,rfl,rfl,rfl⟩
 · cases h;exact .inr (.inl ⟨_,_,rfl,rfl,rfl⟩)
 · exact .inr (.inr ⟨_,_,rfl,rfl,h⟩)
 · cases h
theorem ltDs_cons {x y:D} {xs ys:List D} (hx:hb x = true) (hy:hb y = true):ltDs (x::xs) (y::ys) = some k↔(x = y∧ltDs xs ys = some k)∨(x≠y∧ltD x y = some k):=by
 rw [show ltDs (x::xs) (y::ys) = if eqD x y = true then ltDs xs ys else ltD x y from by rw [ltDs]]
 by_cases e:x = y
 · rw [if_pos ((eqD_iff x y hx hy).mpr e)]
   exact ⟨fun h=>.inl ⟨e,h⟩,fun h=>h.elim (·.2) fun z=>absurd e z.1⟩
 · rw [if_neg fun z=>e ((eqD_iff x y hx hy).mp z)]
   exact ⟨fun h=>.inr ⟨e,h⟩,fun h=>h.elim (fun z=>absurd z.1 e) (·.2)⟩
def LtA (a:D):Prop:=∀ b k k',hb a = true→hb b = true→ltD a b = some k→ltD b a = some k'→(a = b∧k = false∧k' = false)∨(a≠b∧k' = !k)
def LtT (a:D):Prop:=∀ b c k,hb a = true→hb b = true→hb c = true→ltD b a = some false→ltD c b = some false→ltD c a = some k→k = false
theorem hbL_cons {x:D} {xs:List D} (h:hbL (x::xs) = true):hb x = true∧hbL xs = true:=by
 unfold hbL at h
 rwa [Bool.and_eq_true] at h
theorem ltA_list:∀ (xs ys:List D) (k k':Bool),(∀ x∈xs,LtA x)→hbL xs = true→hbL ys = true→ltDs xs ys = some k→ltDs ys xs = some k'→(xs = ys∧k = false∧k' = false)∨(xs≠ys∧k' = !k)
 | [],[],k,k',_,_,_,h,h'=>by
   unfold ltDs at h h'
   cases h;cases h'
   exact .inl ⟨rfl,rfl,rfl⟩
 | [],_::_,k,k',_,_,_,h,h'=>by
   unfold ltDs at h h'
   cases h;cases h'
   exact .inr ⟨by simp,rfl⟩
 | _::_,[],k,k',_,_,_,h,h'=>by
   unfold ltDs at h h'
   cases h;cases h'
   exact .inr ⟨by simp,rfl⟩
 | x::xs,y::ys,k,k',hA,h1,h2,h,h'=>by
   obtain ⟨a1,a2⟩:=hbL_cons h1
   obtain ⟨b1,b2⟩:=hbL_cons h2
   rcases (ltDs_cons a1 b1).mp h with ⟨rfl,g⟩ | ⟨e,g⟩
   · rcases (ltDs_cons b1 a1).mp h' with ⟨_,g'⟩ | ⟨e',_⟩
     · rcases ltA_list xs ys k k' (fun z hz=>hA z (List.mem_cons_of_mem _ hz)) a2 b2 g g' with ⟨rfl,q⟩ | ⟨n,q⟩
       · exact .inl ⟨rfl,q⟩
       · exact .inr ⟨fun z=>n (List.cons.inj z).2,q⟩
     · exact absurd rfl e'
   · rcases (ltDs_cons b1 a1).mp h' with ⟨e',_⟩ | ⟨_,g'⟩
     · exact absurd e'.symm e
     · rcases hA x List.mem_cons_self y k k' a1 b1 g g' with ⟨z,_⟩ | ⟨_,q⟩
       · exact absurd z e
       · exact .inr ⟨fun z=>e (List.cons.inj z).1,q⟩
theorem depL_mem {x:D}:∀ {xs:List D},x∈xs→dep x≤depL xs
 | y::ys,h=>by
   unfold depL
   rcases List.mem_cons.mp h with rfl | h
   · exact Nat.le_max_left _ _
   · exact Nat.le_trans (depL_mem h) (Nat.le_max_right _ _)
theorem ltA_all:∀ (n:Nat) (a:D),dep a≤n→LtA a
 | n,a,hn,b,k,k',ha,hb',h,h'=>by
   rcases ltD_inv h with ⟨i,j,rfl,rfl,rfl⟩ | ⟨s,t,rfl,rfl,rfl⟩ | ⟨xs,ys,rfl,rfl,h⟩
   · rcases ltD_inv h' with ⟨i',j',e1,e2,rfl⟩ | ⟨_,_,e,_⟩ | ⟨_,_,e,_⟩
     · cases e1;cases e2
       by_cases e:i = j
       · subst e;exact .inl ⟨rfl,by simp,by simp⟩
       · refine .inr ⟨fun z=>e (D.int.inj z),?_⟩
         by_cases l:i < j
         · rw [decide_eq_true l,decide_eq_false (by omega)];rfl
         · rw [decide_eq_false l,decide_eq_true (by omega)];rfl
     · cases e
     · cases e
   · rcases ltD_inv h' with ⟨_,_,e,_⟩ | ⟨s',t',e1,e2,rfl⟩ | ⟨_,_,e,_⟩
     · cases e
     · cases e1;cases e2
       by_cases e:s = t
       · subst e
         have:ltS s s = false:=by
          cases z:ltS s s with
          | false=>rfl
          | true=>have:=ltS_as _ _ z;rw [z] at this;cases this
         exact .inl ⟨rfl,this,this⟩
       · refine .inr ⟨fun z=>e (D.str.inj z),?_⟩
         cases z:ltS s t with
         | true=>exact ltS_as _ _ z
         | false =>
           cases z':ltS t s with
           | true=>rfl
           | false=>exact absurd (ltS_eq _ _ z z') e
     · cases e
   · rcases ltD_inv h' with ⟨_,_,e,_⟩ | ⟨_,_,e,_⟩ | ⟨xs',ys',e1,e2,h'⟩
     · cases e
     · cases e
     · cases e1;cases e2
       unfold hb at ha hb'
       have hd:depL xs+1≤n:=by unfold dep at hn;exact hn
       cases n with
       | zero=>omega
       | succ n =>
         rcases ltA_list xs ys k k' (fun x hx=>ltA_all n x (by have:=depL_mem hx;omega)) ha hb' h h' with ⟨rfl,q⟩ | ⟨e,q⟩
         · exact .inl ⟨rfl,q⟩
         · exact .inr ⟨fun z=>e (D.tup.inj z),q⟩
theorem ltT_list:∀ (xs ys zs:List D) (k:Bool),(∀ x∈xs,LtT x)→hbL xs = true→hbL ys = true→hbL zs = true→ltDs ys xs = some false→ltDs zs ys = some false→ltDs zs xs = some k→k = false
 | [],ys,zs,k,_,_,_,_,_,_,h3=>by
   cases zs<;>unfold ltDs at h3<;>cases h3<;>rfl
 | x::xs,[],zs,k,_,_,_,_,h1,_,_=>by
   unfold ltDs at h1;cases h1
 | x::xs,y::ys,[],k,_,_,_,_,_,h2,_=>by
   unfold ltDs at h2;cases h2
 | x::xs,y::ys,z::zs,k,hT,b1,b2,b3,h1,h2,h3=>by
   obtain ⟨x1,x2⟩:=hbL_cons b1
   obtain ⟨y1,y2⟩:=hbL_cons b2
   obtain ⟨z1,z2⟩:=hbL_cons b3
   rcases (ltDs_cons y1 x1).mp h1 with ⟨e1,g1⟩ | ⟨e1,g1⟩
   · subst e1
     rcases (ltDs_cons z1 y1).mp h2 with ⟨e2,g2⟩ | ⟨e2,g2⟩
     · subst e2
       rcases (ltDs_cons z1 z1).mp h3 with ⟨_,g3⟩ | ⟨e3,_⟩
       · exact ltT_list xs ys zs k (fun w hw=>hT w (List.mem_cons_of_mem _ hw)) x2 y2 z2 g1 g2 g3
       · exact absurd rfl e3
     · rcases (ltDs_cons z1 y1).mp h3 with ⟨e3,_⟩ | ⟨_,g3⟩
       · exact absurd e3 e2
       · rw [g2] at g3;cases g3;rfl
   · rcases (ltDs_cons z1 y1).mp h2 with ⟨e2,g2⟩ | ⟨e2,g2⟩
     · subst e2
       rcases (ltDs_cons z1 x1).mp h3 with ⟨e3,_⟩ | ⟨_,g3⟩
       · exact absurd e3 e1
       · rw [g1] at g3;cases g3;rfl
     · rcases (ltDs_cons z1 x1).mp h3 with ⟨e3,_⟩ | ⟨_,g3⟩
       · subst e3
         rcases ltA_all _ y (Nat.le_refl _) z false false y1 z1 g1 g2 with ⟨e,_⟩ | ⟨_,e⟩
         · exact absurd e e1
         · cases e
       · exact hT x List.mem_cons_self y z k x1 y1 z1 g1 g2 g3
theorem ltT_all:∀ (n:Nat) (a:D),dep a≤n→LtT a
 | n,a,hn,b,c,k,ha,hb',hc,h1,h2,h3=>by
   rcases ltD_inv h3 with ⟨i,j,rfl,rfl,rfl⟩ | ⟨s,t,rfl,rfl,rfl⟩ | ⟨zs,xs,rfl,rfl,g3⟩
   · rcases ltD_inv h1 with ⟨i',j',rfl,e2,e3⟩ | ⟨_,_,_,e,_⟩ | ⟨_,_,_,e,_⟩
     · cases e2
       rcases ltD_inv h2 with ⟨_,_,e4,e5,e6⟩ | ⟨_,_,e,_⟩ | ⟨_,_,e,_⟩
       · cases e4;cases e5
         have:=of_decide_eq_false e3.symm
         have:=of_decide_eq_false e6.symm
         exact decide_eq_false (by omega)
       · cases e
       · cases e
     · cases e
     · cases e
   · rcases ltD_inv h1 with ⟨_,_,_,e,_⟩ | ⟨i',j',rfl,e2,e3⟩ | ⟨_,_,_,e,_⟩
     · cases e
     · cases e2
       rcases ltD_inv h2 with ⟨_,_,e,_⟩ | ⟨_,_,e4,e5,e6⟩ | ⟨_,_,e,_⟩
       · cases e
       · cases e4;cases e5
         exact ltS_tr _ _ _ e3.symm e6.symm
       · cases e
     · cases e
   · rcases ltD_inv h1 with ⟨_,_,_,e,_⟩ | ⟨_,_,_,e,_⟩ | ⟨ys,xs',rfl,e2,g1⟩
     · cases e
     · cases e
     · cases e2
       rcases ltD_inv h2 with ⟨_,_,e,_⟩ | ⟨_,_,e,_⟩ | ⟨_,_,e4,e5,g2⟩
       · cases e
       · cases e
       · cases e4;cases e5
         unfold hb at ha hb' hc
         have hd:depL xs+1≤n:=by unfold dep at hn;exact hn
         cases n with
         | zero=>omega
         | succ n=>exact ltT_list xs ys zs k (fun x hx=>ltT_all n x (by have:=depL_mem hx;omega)) ha hb' hc g1 g2 g3
end PP
end
section
namespace P1
open PySem L2 PP
def top (i:Nat):Stmt:=PySem.Challenge.pw_cutless_k33_two_branches_parted.main.body.getD i (.Pass ⟨0,0,0,0⟩)
def d_inside:Fd:=⟨"inside",["A"],[],
 (.cons (.ret (.ite (.cmp .isin (.ix (.var 0) (.int 0)) (.glob 0)) (.tup .nil) (.sl (.var 0) (.yes (.int 1)) .no)))
 .nil),false⟩
def d_sorted_row:Fd:=⟨"sorted_row",["signed"],["kept","each"],
 (.cons (.new 1 (.lst .nil))
 (.cons (.for_ (.nm 2) (.sq (.blt .sorted (.cons (.var 0) .nil)))
 (.cons (.ifs (.or (.not (.var 1)) (.cmp .ne (.ix (.pk 1) (.neg (.int 1))) (.var 2)))
 (.cons (.append 1 (.var 2))
 .nil)
 .nil)
 .nil))
 (.cons (.ret (.blt .toTup (.cons (.pk 1) .nil)))
 .nil))),false⟩
def d_more:Fd:=⟨"more",["row","added"],[],
 (.cons (.ret (.call 1 (.cons (.bin .add (.blt .toLst (.cons (.var 0) .nil)) (.blt .toLst (.cons (.var 1) .nil))) .nil)))
 .nil),false⟩
def d_closes:Fd:=⟨"closes",["row"],[],
 (.cons (.ifs (.or (.cmp .isin (.tup (.cons (.str "right") (.cons (.tup (.cons (.str "yes") .nil)) .nil))) (.var 0)) (.cmp .isin (.tup (.cons (.str "left") (.cons (.tup (.cons (.str "no") .nil)) .nil))) (.var 0)))
 (.cons (.ret (.bl true))
 .nil)
 .nil)
 (.cons (.ret (.blt .any (.cons (.comp 2 (.tp [1,2]) (.sq (.var 0)) .no (.and (.cmp .eq (.var 1) (.str "left")) (.cmp .isin (.tup (.cons (.str "right") (.cons (.var 2) .nil))) (.var 0)))) .nil)))
 .nil)),false⟩
def d_other_side:Fd:=⟨"other_side",["side"],[],
 (.cons (.ret (.ite (.cmp .eq (.var 0) (.str "left")) (.str "right") (.str "left")))
 .nil),false⟩
def d_signed_within:Fd:=⟨"signed_within",["side","A"],["signed"],
 (.cons (.cmp true 2 (.comp 1 (.nm 3) (.sq (.call 0 (.cons (.var 1) .nil))) .no (.tup (.cons (.var 0) (.cons (.var 3) .nil)))))
 (.cons (.ifs (.cmp .isin (.ix (.var 1) (.int 0)) (.tup (.cons (.str "not") (.cons (.str "if") .nil))))
 (.cons (.setix 2 (.int 0) (.tup (.cons (.call 4 (.cons (.var 0) .nil)) (.cons (.ix (.var 1) (.int 1)) .nil))))
 .nil)
 .nil)
 (.cons (.ret (.var 2))
 .nil))),false⟩
def d_parts:Fd:=⟨"parts",["side","A","name"],["kind","signed"],
 (.cons (.asg (.nm 3) (.ix (.var 1) (.int 0)))
 (.cons (.ifs (.cmp .isin (.var 3) (.glob 0))
 (.cons .bad
 .nil)
 .nil)
 (.cons (.ifs (.cmp .isin (.var 3) (.glob 1))
 (.cons .bad
 .nil)
 .nil)
 (.cons (.asg (.nm 4) (.call 5 (.cons (.var 0) (.cons (.var 1) .nil))))
 (.cons (.ifs (.cmp .isin (.tup (.cons (.var 0) (.cons (.var 3) .nil))) (.glob 2))
 (.cons (.ret (.comp 1 (.nm 5) (.sq (.var 4)) .no (.lst (.cons (.var 5) .nil))))
 .nil)
 .nil)
 (.cons .bad
 .nil)))))),false⟩
def d_is_own:Fd:=⟨"is_own",["side","A"],[],
 (.cons (.ret (.cmp .isin (.tup (.cons (.var 0) (.cons (.ix (.var 1) (.int 0)) .nil))) (.glob 3)))
 .nil),false⟩
def d_kids_of:Fd:=⟨"kids_of",["tree"],[],
 (.cons (.ret (.ite (.cmp .eq (.var 0) (.glob 4)) (.tup .nil) (.ix (.var 0) (.neg (.int 1)))))
 .nil),false⟩
def d_with_kids:Fd:=⟨"with_kids",["tree","kids"],[],
 (.cons (.ret (.ite (.cmp .eq (.var 0) (.glob 4)) (.var 0) (.bin .add (.sl (.var 0) .no (.yes (.neg (.int 1)))) (.tup (.cons (.blt .toTup (.cons (.var 1) .nil)) .nil)))))
 .nil),false⟩
def d_added_above:Fd:=⟨"added_above",["tree"],[],
 (.cons (.ifs (.cmp .eq (.ix (.var 0) (.int 0)) (.str "rule"))
 (.cons (.ret (.call 6 (.cons (.ix (.var 0) (.int 1)) (.cons (.ix (.var 0) (.int 2)) (.cons (.ix (.var 0) (.int 3)) .nil)))))
 .nil)
 .nil)
 (.cons .bad
 (.cons .bad
 .nil))),false⟩
def d_rows_above:Fd:=⟨"rows_above",["row","tree"],[],
 (.cons (.ret (.comp 1 (.nm 2) (.sq (.call 10 (.cons (.var 1) .nil))) .no (.call 2 (.cons (.var 0) (.cons (.var 2) .nil)))))
 .nil),false⟩
def d_stands_at:Fd:=⟨"stands_at",["row","tree"],["side","A","name"],
 (.cons (.asg (.tp [2,3,4]) (.sl (.var 1) (.yes (.int 1)) (.yes (.int 4))))
 (.cons (.ifs (.cmp .notin (.tup (.cons (.var 2) (.cons (.var 3) .nil))) (.var 0))
 (.cons .bad
 .nil)
 .nil)
 (.cons (.ifs (.cmp .ne (.cmp .isin (.ix (.var 3) (.int 0)) (.glob 1)) (.cmp .ne (.var 4) (.str "")))
 (.cons .bad
 .nil)
 .nil)
 (.cons (.ret (.not (.and (.call 7 (.cons (.var 2) (.cons (.var 3) .nil))) .bad)))
 .nil)))),false⟩
def d_fits:Fd:=⟨"fits",["row","tree"],["rows","kids","above","kid"],
 (.cons (.ifs (.cmp .eq (.var 1) (.glob 4))
 (.cons (.ret (.call 3 (.cons (.var 0) .nil)))
 .nil)
 .nil)
 (.cons (.ifs (.and (.cmp .eq (.ix (.var 1) (.int 0)) (.str "rule")) (.not (.call 12 (.cons (.var 0) (.cons (.var 1) .nil)))))
 (.cons .bad
 .nil)
 .nil)
 (.cons (.asg (.nm 2) (.call 11 (.cons (.var 0) (.cons (.var 1) .nil))))
 (.cons (.asg (.nm 3) (.call 8 (.cons (.var 1) .nil)))
 (.cons (.ifs (.or (.not (.var 2)) (.cmp .ne (.blt .len (.cons (.var 2) .nil)) (.blt .len (.cons (.var 3) .nil))))
 (.cons .bad
 .nil)
 .nil)
 (.cons (.forZ (.tp [4,5]) (.cons (.var 2) (.cons (.var 3) .nil))
 (.cons (.ifs (.not (.call 13 (.cons (.var 4) (.cons (.var 5) .nil))))
 (.cons .bad
 .nil)
 .nil)
 .nil))
 (.cons (.ret (.bl true))
 .nil))))))),false⟩
def d_trees_within:Fd:=⟨"trees_within",["tree"],["found","kid"],
 (.cons (.new 1 (.lst (.cons (.var 0) .nil)))
 (.cons (.for_ (.nm 2) (.sq (.call 8 (.cons (.var 0) .nil)))
 (.cons (.extend 1 (.call 14 (.cons (.var 2) .nil)))
 .nil))
 (.cons (.ret (.var 1))
 .nil))),false⟩
def d_cuts_within:Fd:=⟨"cuts_within",["tree"],[],
 (.cons (.ret (.comp 1 (.nm 1) (.sq (.call 14 (.cons (.var 0) .nil))) (.yes (.cmp .eq (.ix (.var 1) (.int 0)) (.str "cut"))) (.var 1)))
 .nil),false⟩
def d_cuts:Fd:=⟨"cuts",["tree"],[],
 (.cons (.ret (.blt .len (.cons (.call 15 (.cons (.var 0) .nil)) .nil)))
 .nil),false⟩
def d_rules_of:Fd:=⟨"rules_of",["I","name","first","second"],[],
 (.cons (.ret (.tup (.cons (.var 0) (.cons (.tup (.cons (.str "rule") (.cons (.str "right") (.cons (.var 0) (.cons (.var 1) (.cons (.blt .toTup (.cons (.var 2) .nil)) .nil)))))) (.cons (.tup (.cons (.str "rule") (.cons (.str "left") (.cons (.var 0) (.cons (.var 1) (.cons (.blt .toTup (.cons (.var 3) .nil)) .nil)))))) .nil)))))
 .nil),false⟩
def d_shared_with:Fd:=⟨"shared_with",["ones","others"],[],
 (.cons (.ret (.comp 2 (.tp [2,3]) (.sq (.var 0)) (.yes (.and (.cmp .eq (.var 2) (.str "left")) (.cmp .isin (.tup (.cons (.str "right") (.cons (.var 3) .nil))) (.var 1)))) (.var 3)))
 .nil),false⟩
def d_parted_close:Fd:=⟨"parted_close",["ones","others"],["forward","backward"],
 (.cons (.ifs (.call 3 (.cons (.var 0) .nil))
 (.cons (.ret (.tup (.cons (.tup (.cons (.str "no") .nil)) (.cons (.glob 4) (.cons (.glob 4) .nil)))))
 .nil)
 .nil)
 (.cons (.ifs (.call 3 (.cons (.var 1) .nil))
 (.cons (.ret (.tup (.cons (.tup (.cons (.str "yes") .nil)) (.cons (.glob 4) (.cons (.glob 4) .nil)))))
 .nil)
 .nil)
 (.cons (.asg (.nm 2) (.call 18 (.cons (.var 0) (.cons (.var 1) .nil))))
 (.cons (.ifs (.var 2)
 (.cons (.ret (.tup (.cons (.ix (.var 2) (.int 0)) (.cons (.glob 4) (.cons (.glob 4) .nil)))))
 .nil)
 .nil)
 (.cons (.asg (.nm 3) (.call 18 (.cons (.var 1) (.cons (.var 0) .nil))))
 (.cons (.ret (.call 17 (.cons (.tup (.cons (.str "not") (.cons (.ix (.var 3) (.int 0)) .nil))) (.cons (.str "") (.cons (.lst (.cons (.glob 4) .nil)) (.cons (.lst (.cons (.glob 4) .nil)) .nil))))))
 .nil)))))),false⟩
def d_of_two_kids:Fd:=⟨"of_two_kids",["rule","is_first","told"],["between","firsts","seconds"],
 (.cons (.asg (.nm 3) (.tup (.cons (.ix (.ix (.var 2) (.int 0)) (.int 0)) (.cons (.ix (.ix (.var 2) (.int 1)) (.int 0)) .nil))))
 (.cons (.cmp false 4 (.comp 1 (.nm 6) (.sq (.var 2)) .no (.ix (.var 6) (.int 1))))
 (.cons (.cmp false 5 (.comp 1 (.nm 6) (.sq (.var 2)) .no (.ix (.var 6) (.int 2))))
 (.cons (.ifs (.var 1)
 (.cons (.ret (.call 17 (.cons (.bin .add (.tup (.cons (.str "or") .nil)) (.var 3)) (.cons (.str "") (.cons (.lst (.cons (.call 9 (.cons (.var 0) (.cons (.var 4) .nil))) .nil)) (.cons (.var 5) .nil))))))
 .nil)
 .nil)
 (.cons (.ret (.call 17 (.cons (.bin .add (.tup (.cons (.str "and") .nil)) (.var 3)) (.cons (.str "") (.cons (.var 4) (.cons (.lst (.cons (.call 9 (.cons (.var 0) (.cons (.var 5) .nil))) .nil)) .nil))))))
 .nil))))),false⟩
def d_parted_tree:Fd:=⟨"parted_tree",["ones","others","tree"],["side","A","name","kids","is_first","told","branch","kid"],
 (.cons (.ifs (.cmp .eq (.var 2) (.glob 4))
 (.cons (.ret (.call 19 (.cons (.var 0) (.cons (.var 1) .nil))))
 .nil)
 .nil)
 (.cons (.asg (.tp [3,4,5,6]) (.sl (.var 2) (.yes (.int 1)) .no))
 (.cons (.asg (.nm 7) (.cmp .isin (.tup (.cons (.var 3) (.cons (.var 4) .nil))) (.var 0)))
 (.cons (.new 8 (.lst .nil))
 (.cons (.forZ (.tp [9,10]) (.cons (.call 6 (.cons (.var 3) (.cons (.var 4) (.cons (.var 5) .nil)))) (.cons (.var 6) .nil))
 (.cons (.ifs (.var 7)
 (.cons (.append 8 (.call 21 (.cons (.call 2 (.cons (.var 0) (.cons (.var 9) .nil))) (.cons (.var 1) (.cons (.var 10) .nil)))))
 .nil)
 (.cons (.append 8 (.call 21 (.cons (.var 0) (.cons (.call 2 (.cons (.var 1) (.cons (.var 9) .nil))) (.cons (.var 10) .nil)))))
 .nil))
 .nil))
 (.cons (.ifs (.cmp .eq (.blt .len (.cons (.pk 8) .nil)) (.int 2))
 (.cons (.ret (.call 20 (.cons (.var 2) (.cons (.var 7) (.cons (.var 8) .nil)))))
 .nil)
 .nil)
 (.cons .bad
 .nil))))))),false⟩
def d_parted:Fd:=⟨"parted",["ones","others","tree"],[],
 (.cons (.ifs (.not (.call 13 (.cons (.call 2 (.cons (.var 0) (.cons (.var 1) .nil))) (.cons (.var 2) .nil))))
 (.cons .bad
 .nil)
 .nil)
 (.cons (.ifs (.cmp .gt (.call 16 (.cons (.var 2) .nil)) (.int 0))
 (.cons .bad
 .nil)
 .nil)
 (.cons (.ret (.call 21 (.cons (.var 0) (.cons (.var 1) (.cons (.var 2) .nil)))))
 .nil))),false⟩
def d__law_once:Fd:=⟨"_law_once",["_law_some"],["_law_row","_law_one"],
 (.cons (.new 1 (.lst .nil))
 (.cons (.for_ (.nm 2) (.sq (.blt .sorted (.cons (.var 0) .nil)))
 (.cons (.ifs (.cmp .notin (.var 2) (.sl (.pk 1) (.yes (.neg (.int 1))) .no))
 (.cons (.append 1 (.var 2))
 .nil)
 .nil)
 .nil))
 (.cons (.ret (.blt .toTup (.cons (.pk 1) .nil)))
 .nil))),false⟩
def d__law_cell:Fd:=⟨"_law_cell",["_law_script","_law_k"],[],
 (.cons (.ifs (.cmp .lt (.var 1) (.blt .len (.cons (.var 0) .nil)))
 (.cons (.ret (.ix (.var 0) (.var 1)))
 .nil)
 .nil)
 (.cons (.ret (.bin .mod (.bin .mul (.bin .mul (.bin .add (.var 1) (.int 3)) (.bin .add (.var 1) (.int 3))) (.int 69621)) (.int 1000003)))
 .nil)),false⟩
def d__law_mix:Fd:=⟨"_law_mix",["_law_cell_here"],["_law_far"],
 (.cons (.asg (.nm 1) (.bin .mod (.bin .mul (.bin .add (.bin .mod (.var 0) (.bin .pow (.int 10) (.int 30))) (.int 7)) (.int 618970019642690137449562111)) (.bin .add (.bin .pow (.int 10) (.int 30)) (.int 57))))
 (.cons (.ret (.bin .mod (.bin .mul (.var 1) (.var 1)) (.bin .add (.bin .pow (.int 10) (.int 31)) (.int 33))))
 .nil)),false⟩
def d__law_at:Fd:=⟨"_law_at",["_law_n","_law_block","_law_many"],["_law_far"],
 (.cons (.asg (.nm 3) (.lst (.cons (.int 1) (.cons (.bin .pow (.int 10) (.int 3)) (.cons (.bin .pow (.int 10) (.int 6)) (.cons (.bin .pow (.int 10) (.int 9)) (.cons (.bin .pow (.int 10) (.int 12)) (.cons (.bin .pow (.int 10) (.int 15)) (.cons (.bin .pow (.int 10) (.int 18)) (.cons (.bin .pow (.int 10) (.int 21)) (.cons (.bin .pow (.int 10) (.int 24)) .nil)))))))))))
 (.cons (.ret (.bin .mod (.bin .mod (.bin .fdiv (.var 0) (.ix (.var 3) (.var 1))) (.int 1000)) (.var 2)))
 .nil)),false⟩
def d__law_texts:Fd:=⟨"_law_texts",["_law_n","_law_letters","_law_first","_law_many"],["_law_size_here","_law_at_here","_law_answer","_law_k","_law_text","_law_j","_law_width"],
 (.cons (.asg (.nm 4) (.bin .add (.int 1) (.call 26 (.cons (.var 0) (.cons (.int 0) (.cons (.int 8) .nil))))))
 (.cons (.asg (.nm 5) (.call 26 (.cons (.var 0) (.cons (.int 1) (.cons (.var 4) .nil)))))
 (.cons (.new 6 (.lst .nil))
 (.cons (.for_ (.nm 7) (.rng (.var 3))
 (.cons (.asg (.nm 8) (.str ""))
 (.cons (.for_ (.nm 9) (.rng (.var 4))
 (.cons (.asg (.nm 10) (.blt .len (.cons (.var 1) .nil)))
 (.cons (.ifs (.cmp .eq (.var 9) (.int 0))
 (.cons (.asg (.nm 10) (.var 2))
 .nil)
 .nil)
 (.cons (.asg (.nm 8) (.bin .add (.var 8) (.ix (.var 1) (.bin .mod (.bin .add (.call 26 (.cons (.var 0) (.cons (.bin .add (.int 2) (.bin .mod (.var 9) (.int 6))) (.cons (.var 10) .nil)))) (.bin .mul (.var 7) (.blt .toInt (.cons (.cmp .eq (.var 9) (.var 5)) .nil)))) (.var 10)))))
 .nil))))
 (.cons (.append 6 (.var 8))
 .nil))))
 (.cons (.ret (.var 6))
 .nil))))),false⟩
def d__law_words:Fd:=⟨"_law_words",["_law_script"],[],
 (.cons (.ret (.call 27 (.cons (.call 25 (.cons (.call 24 (.cons (.var 0) (.cons (.int 0) .nil))) .nil)) (.cons (.str "bcdfghjklmpqrtvwxz") (.cons (.int 18) (.cons (.int 3) .nil))))))
 .nil),false⟩
def d__law_names_drawn:Fd:=⟨"_law_names_drawn",["_law_script"],["_law_n"],
 (.cons (.asg (.nm 1) (.call 25 (.cons (.call 24 (.cons (.var 0) (.cons (.int 1) .nil))) .nil)))
 (.cons (.ifs (.cmp .eq (.bin .mod (.bin .fdiv (.var 1) (.bin .pow (.int 10) (.int 27))) (.int 4)) (.int 0))
 (.cons (.ret (.lst (.cons (.str "n0") (.cons (.str "n1") (.cons (.str "n2") (.cons (.str "n3") .nil))))))
 .nil)
 .nil)
 (.cons (.ret (.call 27 (.cons (.var 1) (.cons (.str "abcdefghijklmnopqrstuvwxyz123456789") (.cons (.int 26) (.cons (.int 4) .nil))))))
 .nil))),false⟩
def d__law_size:Fd:=⟨"_law_size",["_law_claim"],[],
 (.cons (.ifs (.cmp .eq (.ix (.var 0) (.int 0)) (.str "word"))
 (.cons (.ret (.int 1))
 .nil)
 .nil)
 (.cons (.ret (.bin .add (.int 1) (.blt .sum (.cons (.comp 1 (.nm 1) (.sq (.sl (.var 0) (.yes (.int 1)) .no)) .no (.call 30 (.cons (.var 1) .nil))) .nil))))
 .nil)),false⟩
def d__law_word:Fd:=⟨"_law_word",["_law_n","_law_words_here","_law_names"],["_law_many","_law_at_here","_law_terms","_law_k","_law_pick"],
 (.cons (.asg (.tp [0,3]) (.blt .dvm (.cons (.var 0) (.cons (.int 4) .nil))))
 (.cons (.asg (.tp [0,4]) (.blt .dvm (.cons (.var 0) (.cons (.blt .len (.cons (.var 1) .nil)) .nil))))
 (.cons (.new 5 (.lst .nil))
 (.cons (.for_ (.nm 6) (.rng (.var 3))
 (.cons (.asg (.tp [0,7]) (.blt .dvm (.cons (.var 0) (.cons (.blt .len (.cons (.var 2) .nil)) .nil))))
 (.cons (.append 5 (.ix (.var 2) (.var 7)))
 .nil)))
 (.cons (.ret (.tup (.cons (.str "word") (.cons (.ix (.var 1) (.var 4)) (.cons (.blt .toTup (.cons (.pk 5) .nil)) .nil)))))
 .nil))))),false⟩
def d__law_more:Fd:=⟨"_law_more",["_law_row","_law_added"],[],
 (.cons (.ret (.call 23 (.cons (.bin .add (.blt .toLst (.cons (.var 0) .nil)) (.blt .toLst (.cons (.var 1) .nil))) .nil)))
 .nil),false⟩
def d__law_closes:Fd:=⟨"_law_closes",["_law_row"],["_law_side","_law_claim"],
 (.cons (.for_ (.tp [1,2]) (.sq (.var 0))
 (.cons (.ifs (.and (.cmp .eq (.var 1) (.str "left")) (.or (.cmp .eq (.var 2) (.tup (.cons (.str "no") .nil))) (.cmp .isin (.tup (.cons (.str "right") (.cons (.var 2) .nil))) (.var 0))))
 (.cons (.ret (.bl true))
 .nil)
 .nil)
 (.cons (.ifs (.and (.cmp .eq (.var 1) (.str "right")) (.cmp .eq (.var 2) (.tup (.cons (.str "yes") .nil))))
 (.cons (.ret (.bl true))
 .nil)
 .nil)
 .nil)))
 (.cons (.ret (.bl false))
 .nil)),false⟩
def d__law_branches:Fd:=⟨"_law_branches",["_law_side","_law_claim","_law_name"],["_law_far","_law_one"],
 (.cons (.asg (.nm 3) (.ix (.lst (.cons (.str "left") (.cons (.str "right") .nil))) (.blt .toInt (.cons (.cmp .eq (.var 0) (.str "left")) .nil))))
 (.cons (.ifs (.cmp .eq (.ix (.var 1) (.int 0)) (.str "not"))
 (.cons .bad
 .nil)
 .nil)
 (.cons (.ifs (.cmp .isin (.ix (.var 1) (.int 0)) (.tup (.cons (.str "all") (.cons (.str "some") .nil))))
 (.cons .bad
 .nil)
 .nil)
 (.cons (.ifs (.cmp .notin (.ix (.var 1) (.int 0)) (.tup (.cons (.str "and") (.cons (.str "or") (.cons (.str "if") .nil)))))
 (.cons .bad
 .nil)
 .nil)
 (.cons (.asg (.nm 4) (.tup (.cons (.var 0) (.cons (.ix (.var 1) (.int 1)) .nil))))
 (.cons (.ifs (.cmp .eq (.ix (.var 1) (.int 0)) (.str "if"))
 (.cons (.asg (.nm 4) (.tup (.cons (.var 3) (.cons (.ix (.var 1) (.int 1)) .nil))))
 .nil)
 .nil)
 (.cons (.ifs (.cmp .eq (.cmp .eq (.ix (.var 1) (.int 0)) (.str "and")) (.cmp .eq (.var 0) (.str "left")))
 (.cons .bad
 .nil)
 .nil)
 (.cons (.ret (.lst (.cons (.lst (.cons (.var 4) .nil)) (.cons (.lst (.cons (.tup (.cons (.var 0) (.cons (.ix (.var 1) (.int 2)) .nil))) .nil)) .nil))))
 .nil)))))))),false⟩
def d__law_leaf:Fd:=⟨"_law_leaf",["_law_n","_law_words_here","_law_names"],["_law_way","_law_bits","_law_some","_law_claim","_law_row","_law_k"],
 (.cons (.asg (.tp [0,3]) (.blt .dvm (.cons (.var 0) (.cons (.int 11) .nil))))
 (.cons (.asg (.tp [0,4]) (.blt .dvm (.cons (.var 0) (.cons (.int 64) .nil))))
 (.cons (.asg (.nm 5) (.lst (.cons (.ix (.lst (.cons (.str "left") (.cons (.str "right") .nil))) (.bin .mod (.var 4) (.int 2))) (.cons (.ix (.lst (.cons (.str "left") (.cons (.str "right") .nil))) (.bin .mod (.bin .fdiv (.var 4) (.int 2)) (.int 2))) .nil))))
 (.cons (.asg (.nm 6) (.call 31 (.cons (.var 0) (.cons (.var 1) (.cons (.var 2) .nil)))))
 (.cons (.new 7 (.lst (.cons (.tup (.cons (.str "left") (.cons (.var 6) .nil))) (.cons (.tup (.cons (.str "right") (.cons (.var 6) .nil))) .nil))))
 (.cons (.ifs (.cmp .eq (.var 3) (.int 0))
 (.cons (.new 7 (.lst (.cons (.tup (.cons (.str "right") (.cons (.tup (.cons (.str "yes") .nil)) .nil))) (.cons (.tup (.cons (.ix (.var 5) (.int 0)) (.cons (.var 6) .nil))) .nil))))
 .nil)
 .nil)
 (.cons (.ifs (.cmp .eq (.var 3) (.int 1))
 (.cons (.new 7 (.lst (.cons (.tup (.cons (.str "left") (.cons (.tup (.cons (.str "no") .nil)) .nil))) (.cons (.tup (.cons (.ix (.var 5) (.int 0)) (.cons (.var 6) .nil))) .nil))))
 .nil)
 .nil)
 (.cons (.ifs (.cmp .eq (.var 3) (.int 2))
 (.cons (.asg (.nm 6) (.tup (.cons (.ix (.lst (.cons (.str "and") (.cons (.str "or") (.cons (.str "if") .nil)))) (.bin .mod (.bin .fdiv (.var 4) (.int 4)) (.int 3))) (.cons (.var 6) (.cons (.call 31 (.cons (.bin .fdiv (.var 0) (.bin .pow (.int 10) (.int 6))) (.cons (.var 1) (.cons (.var 2) .nil)))) .nil)))))
 (.cons (.new 7 (.lst (.cons (.tup (.cons (.str "left") (.cons (.var 6) .nil))) (.cons (.tup (.cons (.str "right") (.cons (.var 6) .nil))) .nil))))
 .nil))
 .nil)
 (.cons (.for_ (.nm 8) (.rng (.bin .fdiv (.var 4) (.int 16)))
 (.cons (.append 7 (.tup (.cons (.ix (.var 5) (.bin .mod (.var 8) (.int 2))) (.cons (.call 31 (.cons (.bin .fdiv (.var 0) (.ix (.lst (.cons (.bin .pow (.int 10) (.int 9)) (.cons (.bin .pow (.int 10) (.int 12)) (.cons (.bin .pow (.int 10) (.int 15)) .nil)))) (.var 8))) (.cons (.var 1) (.cons (.var 2) .nil)))) .nil))))
 .nil))
 (.cons (.ret (.tup (.cons (.call 32 (.cons (.var 7) (.cons (.lst .nil) .nil))) (.cons (.tup (.cons (.str "close") .nil)) (.cons (.int 1) .nil)))))
 .nil)))))))))),false⟩
def d__law_on:Fd:=⟨"_law_on",["_law_row","_law_side","_law_n","_law_extra"],["_law_some"],
 (.cons (.cmp false 4 (.comp 1 (.nm 5) (.sq (.var 0)) (.yes (.cmp .eq (.ix (.var 5) (.int 0)) (.var 1))) (.var 5)))
 (.cons (.ifs (.or (.cmp .eq (.var 4) (.lst .nil)) (.cmp .eq (.call 26 (.cons (.var 2) (.cons (.int 0) (.cons (.int 7) .nil)))) (.int 0)))
 (.cons (.ret (.tup (.cons (.var 1) (.cons (.var 3) .nil))))
 .nil)
 .nil)
 (.cons (.ret (.ix (.var 4) (.call 26 (.cons (.var 2) (.cons (.int 1) (.cons (.blt .len (.cons (.var 4) .nil)) .nil))))))
 .nil))),false⟩
def d__law_both:Fd:=⟨"_law_both",["_law_one","_law_two","_law_n","_law_extra"],["_law_kind","_law_first","_law_second","_law_left","_law_right","_law_made","_law_kept","_law_row","_law_high"],
 (.cons (.asg (.tp [4,5,6]) (.ix (.lst (.cons (.tup (.cons (.str "and") (.cons (.str "right") (.cons (.str "right") .nil)))) (.cons (.tup (.cons (.str "or") (.cons (.str "left") (.cons (.str "left") .nil)))) (.cons (.tup (.cons (.str "if") (.cons (.str "right") (.cons (.str "left") .nil)))) .nil)))) (.call 26 (.cons (.var 2) (.cons (.int 2) (.cons (.int 3) .nil))))))
 (.cons (.asg (.nm 7) (.call 36 (.cons (.ix (.var 0) (.int 0)) (.cons (.var 5) (.cons (.var 2) (.cons (.var 3) .nil))))))
 (.cons (.asg (.nm 8) (.call 36 (.cons (.ix (.var 1) (.int 0)) (.cons (.var 6) (.cons (.bin .fdiv (.var 2) (.bin .pow (.int 10) (.int 9))) (.cons (.var 3) .nil))))))
 (.cons (.asg (.nm 9) (.tup (.cons (.var 6) (.cons (.tup (.cons (.var 4) (.cons (.ix (.var 7) (.int 1)) (.cons (.ix (.var 8) (.int 1)) .nil)))) .nil))))
 (.cons (.asg (.nm 10) (.bin .add (.comp 1 (.nm 13) (.sq (.ix (.var 0) (.int 0))) (.yes (.cmp .ne (.var 13) (.var 7))) (.var 13)) (.comp 1 (.nm 13) (.sq (.ix (.var 1) (.int 0))) (.yes (.cmp .ne (.var 13) (.var 8))) (.var 13))))
 (.cons (.asg (.nm 11) (.call 32 (.cons (.var 10) (.cons (.lst (.cons (.var 9) .nil)) .nil))))
 (.cons (.asg (.nm 12) (.bin .add (.int 1) (.blt .max (.cons (.ix (.var 0) (.int 2)) (.cons (.ix (.var 1) (.int 2)) .nil)))))
 (.cons (.ifs (.or (.cmp .gt (.blt .len (.cons (.var 11) .nil)) (.int 30)) (.or (.cmp .gt (.var 12) (.int 30)) (.cmp .gt (.call 30 (.cons (.ix (.var 9) (.int 1)) .nil)) (.int 30))))
 (.cons (.ret (.var 1))
 .nil)
 .nil)
 (.cons (.ret (.tup (.cons (.var 11) (.cons (.tup (.cons (.str "rule") (.cons (.var 6) (.cons (.ix (.var 9) (.int 1)) (.cons (.str "") (.cons (.tup (.cons (.ix (.var 0) (.int 1)) (.cons (.ix (.var 1) (.int 1)) .nil))) .nil)))))) (.cons (.var 12) .nil)))))
 .nil))))))))),false⟩
def d__law_dealt:Fd:=⟨"_law_dealt",["_law_row","_law_n"],["_law_ones","_law_others","_law_one","_law_way"],
 (.cons (.new 2 (.lst .nil))
 (.cons (.new 3 (.lst .nil))
 (.cons (.for_ (.nm 4) (.sq (.var 0))
 (.cons (.asg (.tp [1,5]) (.blt .dvm (.cons (.var 1) (.cons (.int 5) .nil))))
 (.cons (.ifs (.or (.cmp .lt (.var 5) (.int 2)) (.cmp .eq (.var 5) (.int 4)))
 (.cons (.append 2 (.var 4))
 .nil)
 .nil)
 (.cons (.ifs (.cmp .gt (.var 5) (.int 1))
 (.cons (.append 3 (.var 4))
 .nil)
 .nil)
 .nil))))
 (.cons (.ret (.tup (.cons (.blt .toTup (.cons (.pk 2) .nil)) (.cons (.blt .toTup (.cons (.pk 3) .nil)) .nil))))
 .nil)))),false⟩
def d__law_close_due:Fd:=⟨"_law_close_due",["_law_ones","_law_others"],["_law_side","_law_claim","_law_turned","_law_first"],
 (.cons (.ifs (.call 33 (.cons (.var 0) .nil))
 (.cons (.ret (.tup (.cons (.tup (.cons (.str "no") .nil)) (.cons (.tup (.cons (.str "close") .nil)) (.cons (.tup (.cons (.str "close") .nil)) .nil)))))
 .nil)
 .nil)
 (.cons (.ifs (.call 33 (.cons (.var 1) .nil))
 (.cons (.ret (.tup (.cons (.tup (.cons (.str "yes") .nil)) (.cons (.tup (.cons (.str "close") .nil)) (.cons (.tup (.cons (.str "close") .nil)) .nil)))))
 .nil)
 .nil)
 (.cons (.for_ (.tp [2,3]) (.sq (.var 0))
 (.cons (.ifs (.and (.cmp .eq (.var 2) (.str "left")) (.cmp .isin (.tup (.cons (.str "right") (.cons (.var 3) .nil))) (.var 1)))
 (.cons (.ret (.tup (.cons (.var 3) (.cons (.tup (.cons (.str "close") .nil)) (.cons (.tup (.cons (.str "close") .nil)) .nil)))))
 .nil)
 .nil)
 .nil))
 (.cons (.for_ (.tp [2,3]) (.sq (.var 1))
 (.cons (.ifs (.and (.cmp .eq (.var 2) (.str "left")) (.cmp .isin (.tup (.cons (.str "right") (.cons (.var 3) .nil))) (.var 0)))
 (.cons (.asg (.nm 4) (.tup (.cons (.str "not") (.cons (.var 3) .nil))))
 (.cons (.asg (.nm 5) (.tup (.cons (.str "rule") (.cons (.str "right") (.cons (.var 4) (.cons (.str "") (.cons (.tup (.cons (.tup (.cons (.str "close") .nil)) .nil)) .nil)))))))
 (.cons (.ret (.tup (.cons (.var 4) (.cons (.var 5) (.cons (.tup (.cons (.str "rule") (.cons (.str "left") (.cons (.var 4) (.cons (.str "") (.cons (.tup (.cons (.tup (.cons (.str "close") .nil)) .nil)) .nil)))))) .nil)))))
 .nil)))
 .nil)
 .nil))
 (.cons .bad
 .nil))))),false⟩
def d__law_due:Fd:=⟨"_law_due",["_law_ones","_law_others","_law_tree"],["_law_first","_law_told","_law_added","_law_kid","_law_whole","_law_one","_law_other"],
 (.cons (.ifs (.cmp .eq (.var 2) (.tup (.cons (.str "close") .nil)))
 (.cons (.ret (.call 39 (.cons (.var 0) (.cons (.var 1) .nil))))
 .nil)
 .nil)
 (.cons (.asg (.nm 3) (.cmp .isin (.tup (.cons (.ix (.var 2) (.int 1)) (.cons (.ix (.var 2) (.int 2)) .nil))) (.var 0)))
 (.cons (.new 4 (.lst .nil))
 (.cons (.forZ (.tp [5,6]) (.cons (.call 34 (.cons (.ix (.var 2) (.int 1)) (.cons (.ix (.var 2) (.int 2)) (.cons (.str "") .nil)))) (.cons (.ix (.var 2) (.int 4)) .nil))
 (.cons (.ifs (.var 3)
 (.cons (.append 4 (.call 40 (.cons (.call 32 (.cons (.var 0) (.cons (.var 5) .nil))) (.cons (.var 1) (.cons (.var 6) .nil)))))
 .nil)
 (.cons (.append 4 (.call 40 (.cons (.var 0) (.cons (.call 32 (.cons (.var 1) (.cons (.var 5) .nil))) (.cons (.var 6) .nil)))))
 .nil))
 .nil))
 (.cons (.asg (.nm 7) (.tup (.cons (.ix (.lst (.cons (.str "and") (.cons (.str "or") .nil))) (.blt .toInt (.cons (.var 3) .nil))) (.cons (.ix (.ix (.pk 4) (.int 0)) (.int 0)) (.cons (.ix (.ix (.pk 4) (.int 1)) (.int 0)) .nil)))))
 (.cons (.asg (.nm 8) (.tup (.cons (.ix (.ix (.pk 4) (.int 0)) (.int 1)) (.cons (.ix (.ix (.pk 4) (.int 1)) (.int 1)) .nil))))
 (.cons (.asg (.nm 9) (.tup (.cons (.ix (.ix (.pk 4) (.int 0)) (.int 2)) (.cons (.ix (.ix (.pk 4) (.int 1)) (.int 2)) .nil))))
 (.cons (.ifs (.var 3)
 (.cons (.asg (.nm 8) (.tup (.cons (.bin .add (.sl (.var 2) .no (.yes (.int 4))) (.tup (.cons (.var 8) .nil))) .nil)))
 .nil)
 (.cons (.asg (.nm 9) (.tup (.cons (.bin .add (.sl (.var 2) .no (.yes (.int 4))) (.tup (.cons (.var 9) .nil))) .nil)))
 .nil))
 (.cons (.ret (.tup (.cons (.var 7) (.cons (.tup (.cons (.str "rule") (.cons (.str "right") (.cons (.var 7) (.cons (.str "") (.cons (.var 8) .nil)))))) (.cons (.tup (.cons (.str "rule") (.cons (.str "left") (.cons (.var 7) (.cons (.str "") (.cons (.var 9) .nil)))))) .nil)))))
 .nil))))))))),false⟩
def d_law:Fd:=⟨"law",["_law_script"],["_law_words_here","_law_names","_law_stack","_law_k","_law_n","_law_two","_law_one","_law_row","_law_tree","_law_high","_law_ones","_law_others","_law_answer"],
 (.cons (.asg (.nm 1) (.call 28 (.cons (.var 0) .nil)))
 (.cons (.asg (.nm 2) (.call 29 (.cons (.var 0) .nil)))
 (.cons (.new 3 (.lst .nil))
 (.cons (.for_ (.nm 4) (.rng2 (.int 4) (.blt .max (.cons (.int 7) (.cons (.blt .min (.cons (.blt .len (.cons (.var 0) .nil)) (.cons (.int 20) .nil))) .nil))))
 (.cons (.asg (.nm 5) (.call 25 (.cons (.call 24 (.cons (.var 0) (.cons (.var 4) .nil))) .nil)))
 (.cons (.append 3 (.call 35 (.cons (.var 5) (.cons (.var 1) (.cons (.var 2) .nil)))))
 (.cons (.while_ (.and (.cmp .gt (.blt .len (.cons (.pk 3) .nil)) (.int 1)) (.cmp .gt (.bin .mod (.var 5) (.int 3)) (.int 0)))
 (.cons (.asg (.nm 5) (.bin .fdiv (.var 5) (.int 3)))
 (.cons (.asg (.nm 6) (.pop 3))
 (.cons (.asg (.nm 7) (.pop 3))
 (.cons (.append 3 (.call 37 (.cons (.var 7) (.cons (.var 6) (.cons (.call 25 (.cons (.var 5) .nil)) (.cons (.call 31 (.cons (.bin .fdiv (.var 5) (.bin .pow (.int 10) (.int 15))) (.cons (.var 1) (.cons (.var 2) .nil)))) .nil))))))
 .nil)))))
 .nil))))
 (.cons (.asg (.tp [8,9,10]) (.ix (.pk 3) (.neg (.int 1))))
 (.cons (.asg (.tp [11,12]) (.call 38 (.cons (.var 8) (.cons (.call 25 (.cons (.call 24 (.cons (.var 0) (.cons (.int 3) .nil))) .nil)) .nil))))
 (.cons (.asg (.nm 13) (.call 22 (.cons (.var 11) (.cons (.var 12) (.cons (.var 9) .nil)))))
 (.cons (.ret (.and (.blt .isTup (.cons (.var 13) .nil)) (.cmp .eq (.var 13) (.call 40 (.cons (.var 11) (.cons (.var 12) (.cons (.var 9) .nil)))))))
 .nil)))))))),false⟩
def Gd:List Fd:=[d_inside,d_sorted_row,d_more,d_closes,d_other_side,d_signed_within,d_parts,d_is_own,d_kids_of,d_with_kids,d_added_above,d_rows_above,d_stands_at,d_fits,d_trees_within,d_cuts_within,d_cuts,d_rules_of,d_shared_with,d_parted_close,d_of_two_kids,d_parted_tree,d_parted,d__law_once,d__law_cell,d__law_mix,d__law_at,d__law_texts,d__law_words,d__law_names_drawn,d__law_size,d__law_word,d__law_more,d__law_closes,d__law_branches,d__law_leaf,d__law_on,d__law_both,d__law_dealt,d__law_close_due,d__law_due,d_law]
def Gs:List Fd:=[d_inside,d_sorted_row,d_more,d_closes,d_other_side,d_signed_within,d_parts,d_is_own,d_kids_of,d_with_kids,d_added_above,d_rows_above,d_stands_at,d_fits,d_trees_within,d_cuts_within,d_cuts,d_rules_of,d_shared_with,d_parted_close,d_of_two_kids,d_parted_tree,d_parted,d__law_once,d__law_cell,d__law_mix,d__law_at,d__law_texts,d__law_words,d__law_names_drawn,d__law_size,d__law_word,d__law_more,d__law_closes,d__law_branches,d__law_leaf,d__law_on,d__law_both,d__law_dealt,d__law_close_due,d__law_due,d_law]
instance tbs:Tbs:=⟨[],[]⟩
def gls:List D:=[.tup [.str "yes",.str "no",.str "word"],.tup [.str "all",.str "some"],.tup [.tup [.str "right",.str "and"],.tup [.str "left",.str "or"],.tup [.str "left",.str "if"]],.tup [.tup [.str "right",.str "all"],.tup [.str "left",.str "some"]],.tup [.str "close"]]
def gns:List Str:=["LEAVES","BINDERS","FORKS","OWN","CLOSE"]
end P1
end
section
namespace P1
open PySem L2 PP
inductive B | and | or | imp
def B.s:B→Str | .and=>"and" | .or=>"or" | .imp=>"if"
inductive F where
 | yes | no | word (w:Str) (ts:List Str) | neg (a:F) | bi (b:B) (x y:F)
def hd:F→Str
 | .yes=>"yes" | .no=>"no" | .word _ _=>"word" | .neg _=>"not" | .bi b _ _=>b.s
def enc:F→D
 | .yes=>.tup [.str "yes"]
 | .no=>.tup [.str "no"]
 | .word w ts=>.tup [.str "word",.str w,.tup (ts.map .str)]
 | .neg a=>.tup [.str "not",enc a]
 | .bi b x y=>.tup [.str b.s,enc x,enc y]
def tl:F→List D
 | .yes | .no=>[]
 | .word w ts=>[.str w,.tup (ts.map .str)]
 | .neg a=>[enc a]
 | .bi _ x y=>[enc x,enc y]
theorem enc_eq (A:F):enc A = .tup (.str (hd A)::tl A):=by cases A<;>rfl
def kd:F→Nat
 | .yes=>0 | .no=>1 | .word _ _=>2 | .neg _=>3 | .bi _ _ _=>4
def kdS (s:Str):Nat:=if s = "yes" then 0 else if s = "no" then 1 else if s = "word" then 2 else if s = "not" then 3 else 4
theorem kdS_hd:∀ A:F,kdS (hd A) = kd A
 | .yes=>(by decide +kernel:kdS "yes" = 0)
 | .no=>(by decide +kernel:kdS "no" = 1)
 | .word _ _=>(by decide +kernel:kdS "word" = 2)
 | .neg _=>(by decide +kernel:kdS "not" = 3)
 | .bi .and _ _=>(by decide +kernel:kdS "and" = 4)
 | .bi .or _ _=>(by decide +kernel:kdS "or" = 4)
 | .bi .imp _ _=>(by decide +kernel:kdS "if" = 4)
theorem kd_of {A B:F} (h:hd A = hd B):kd A = kd B:=by rw [← kdS_hd A,← kdS_hd B,h]
def sz:F→Nat
 | .neg a=>sz a+1
 | .bi _ x y=>sz x+sz y+1
 | _=>1
theorem dep_str (x:Str):dep (.str x) = 0:=by unfold dep;rfl
theorem dep_strs:∀ ts:List Str,depL (ts.map D.str) = 0
 | []=>by unfold depL;rfl
 | t::ts=>by rw [List.map_cons];unfold depL;rw [dep_strs ts,dep_str];rfl
def hF:F→Nat
 | .neg a=>hF a+1
 | .bi _ x y=>max (hF x) (hF y)+1
 | _=>1
theorem hF_sz:∀ A:F,hF A≤sz A
 | .yes | .no | .word _ _=>Nat.le_refl _
 | .neg a=>by have:=hF_sz a;simp only [hF,sz];omega
 | .bi _ x y=>by have:=hF_sz x;have:=hF_sz y;simp only [hF,sz];omega
theorem dep_encH:∀ A:F,dep (enc A)≤hF A+1
 | .yes | .no=>by unfold enc;simp [dep,depL,hF]
 | .word w ts=>by unfold enc;simp [dep,depL,dep_strs,hF]
 | .neg a=>by have:=dep_encH a;unfold enc;simp [dep,depL,hF];omega
 | .bi b x y=>by have:=dep_encH x;have:=dep_encH y;unfold enc;simp [dep,depL,hF];omega
theorem dep_enc (A:F):dep (enc A)≤sz A+1:=by have:=dep_encH A;have:=hF_sz A;omega
theorem eqs_str:∀ ts us:List Str,eqDs (ts.map D.str) (us.map D.str) = true→ts = us
 | [],[],_=>rfl
 | [],_::_,h=>by unfold eqDs at h;cases h
 | _::_,[],h=>by unfold eqDs at h;cases h
 | t::ts,u::us,h=>by
   rw [List.map_cons,List.map_cons] at h
   unfold eqDs eqD at h
   rw [Bool.and_eq_true] at h
   rw [show t = u by simpa using h.1,eqs_str ts us h.2]
theorem eq_hd {A B:F} (h:eqD (enc A) (enc B) = true):hd A = hd B∧eqDs (tl A) (tl B) = true:=by
 rw [enc_eq,enc_eq] at h
 unfold eqD eqDs eqD at h
 rw [Bool.and_eq_true] at h
 exact ⟨by simpa using h.1,h.2⟩
theorem eqs1 {a b:D} (h:eqDs [a] [b] = true):eqD a b = true:=by
 unfold eqDs at h
 rw [Bool.and_eq_true] at h
 exact h.1
theorem eqs2 {a b x y:D} (h:eqDs [a,x] [b,y] = true):eqD a b = true∧eqD x y = true:=by
 unfold eqDs at h
 rw [Bool.and_eq_true] at h
 exact ⟨h.1,eqs1 h.2⟩
theorem bs_inj:∀ b c:B,b.s = c.s→b = c
 | .and,.and,_ | .or,.or,_ | .imp,.imp,_=>rfl
 | .and,.or,h | .and,.imp,h | .or,.and,h | .or,.imp,h | .imp,.and,h | .imp,.or,h=>absurd h (by decide +kernel)
theorem eq_enc:∀ A B:F,eqD (enc A) (enc B) = true→A = B
 | .yes,B,h=>by
   have this:=kd_of (eq_hd h).1
   cases B with
   | yes=>rfl
   | _=>exact absurd this (by simp [kd])
 | .no,B,h=>by
   have this:=kd_of (eq_hd h).1
   cases B with
   | no=>rfl
   | _=>exact absurd this (by simp [kd])
 | .word w ts,B,h=>by
   have this:=kd_of (eq_hd h).1
   have h2:=(eq_hd h).2
   cases B with
   | word v us =>
     obtain ⟨h3,h4⟩:=eqs2 h2
     unfold eqD at h3 h4
     rw [show w = v by simpa using h3,eqs_str ts us h4]
   | _=>exact absurd this (by simp [kd])
 | .neg a,B,h=>by
   have this:=kd_of (eq_hd h).1
   have h2:=(eq_hd h).2
   cases B with
   | neg b=>rw [eq_enc a b (eqs1 h2)]
   | _=>exact absurd this (by simp [kd])
 | .bi b x y,B,h=>by
   have this':=(eq_hd h).1
   have this:=kd_of this'
   have h2:=(eq_hd h).2
   cases B with
   | bi c u v =>
     obtain ⟨h3,h4⟩:=eqs2 h2
     rw [bs_inj b c this',eq_enc x u h3,eq_enc y v h4]
   | _=>exact absurd this (by simp [kd])
def sd (L:Bool):Str:=if L then "left" else "right"
abbrev It:=Bool × F
def itD (p:It):D:=.tup [.str (sd p.1),enc p.2]
theorem sd_inj:∀ b c:Bool,sd b = sd c→b = c:=by decide +kernel
theorem eq_it {p q:It} (h:eqD (itD p) (itD q) = true):p = q:=by
 unfold itD eqD at h
 obtain ⟨h1,h2⟩:=eqs2 h
 unfold eqD at h1
 obtain ⟨a,A⟩:=p
 obtain ⟨b,B⟩:=q
 rw [show a = b from sd_inj a b (by simpa using h1),show A = B from eq_enc A B h2]
def low (ps:List It):Prop:=∀ p∈ps,sz p.2≤61
theorem dep_it (p:It) (h:sz p.2≤61):dep (itD p)≤64:=by
 have:=dep_enc p.2
 unfold itD
 simp only [dep,depL,dep_str]
 omega
theorem dep_its:∀ {ps:List It},low ps→depL (ps.map itD)≤64
 | [],_=>by show depL ([]:List D)≤64;unfold depL;omega
 | p::ps,h=>by
   rw [List.map_cons]
   unfold depL
   have:=dep_it p (h p List.mem_cons_self)
   have:=dep_its (ps:=ps) fun q hq=>h q (List.mem_cons_of_mem _ hq)
   omega
theorem eq_self (p:It) (h:sz p.2≤61):eqD (itD p) (itD p) = true:=eqD_refl _ (by have:=dep_it p h;omega)
def has (ps:List It) (q:It):Bool:=(ps.map itD).any fun y=>eqD y (itD q)
theorem has_iff {ps:List It} {q:It} (h:low ps):has ps q = true↔q∈ps:=by
 unfold has
 rw [List.any_eq_true]
 constructor
 · rintro ⟨y,hy,e⟩
   obtain ⟨p,hp,rfl⟩:=List.mem_map.mp hy
   rw [← eq_it e]
   exact hp
 · intro hq
   exact ⟨_,List.mem_map_of_mem hq,eq_self q (h q hq)⟩
theorem in_ok {ps:List It} {q:It} (h:low ps) (hq:sz q.2≤61):dep (itD q)≤150∧depL (ps.map itD) < 99999:=⟨by have:=dep_it q hq;omega,by have:=dep_its h;omega⟩
theorem ltn (ys:List D):(ltDs [] ys).isSome = true:=by cases ys<;>(unfold ltDs;rfl)
theorem ltn' (ys:List D):(ltDs ys []).isSome = true:=by cases ys<;>(unfold ltDs;rfl)
theorem ltc {x y:D} {xs ys:List D} (h:(ltD x y).isSome = true) (h2:(ltDs xs ys).isSome = true):(ltDs (x::xs) (y::ys)).isSome = true:=by
 unfold ltDs
 split
 · exact h2
 · exact h
theorem lts {s t:Str} {xs ys:List D} (h:s = t→(ltDs xs ys).isSome = true):(ltDs (.str s::xs) (.str t::ys)).isSome = true:=by
 unfold ltDs
 split
 · rename_i e
   exact h (by unfold eqD at e;simpa using e)
 · unfold ltD;rfl
theorem lt_strs:∀ xs ys:List Str,(ltDs (xs.map D.str) (ys.map D.str)).isSome = true
 | [],ys=>ltn _
 | xs,[]=>ltn' _
 | x::xs,y::ys=>lts fun _=>lt_strs xs ys
theorem lt_tup {xs ys:List D} (h:(ltDs xs ys).isSome = true):(ltD (.tup xs) (.tup ys)).isSome = true:=by unfold ltD;exact h
theorem lt_enc:∀ A B:F,(ltD (enc A) (enc B)).isSome = true
 | .yes,B=>by rw [enc_eq B];exact lt_tup (lts fun _=>ltn _)
 | .no,B=>by rw [enc_eq B];exact lt_tup (lts fun _=>ltn _)
 | .word w ts,B=>by
   rw [enc_eq B]
   refine lt_tup (lts fun e=>?_)
   have e:hd (.word w ts) = hd B:=e
   cases B with
   | word v us=>exact lts fun _=>ltc (lt_tup (lt_strs ts us)) (ltn _)
   | _=>exact absurd (kd_of e) (by simp [kd])
 | .neg a,B=>by
   rw [enc_eq B]
   refine lt_tup (lts fun e=>?_)
   have e:hd (.neg a) = hd B:=e
   cases B with
   | neg b=>exact ltc (lt_enc a b) (ltn _)
   | _=>exact absurd (kd_of e) (by simp [kd])
 | .bi b x y,B=>by
   rw [enc_eq B]
   refine lt_tup (lts fun e=>?_)
   have e:hd (.bi b x y) = hd B:=e
   cases B with
   | bi c u v=>exact ltc (lt_enc x u) (ltc (lt_enc y v) (ltn _))
   | _=>exact absurd (kd_of e) (by simp [kd])
theorem row_sortable {row:List It} (h:low row) (hl:row.length < 64):sortable (row.map itD) = true:=by
 unfold PP.sortable
 simp only [Bool.and_eq_true,decide_eq_true_eq,List.all_eq_true]
 refine ⟨⟨by rw [List.length_map];exact hl,fun x hx=>?_⟩,fun x hx y hy=>?_⟩
 · have k:∀ d∈row.map itD,headK d = 3:=fun d hd=>by
    obtain ⟨p,_,rfl⟩:=List.mem_map.mp hd
    rfl
   cases e:row.map itD with
   | nil=>rw [e] at hx;cases hx
   | cons z zs =>
     have e2:headK ((z::zs).getD 0 .non) = 3:=k z (by rw [e];exact List.mem_cons_self)
     rw [k x hx,e2]
     exact ⟨rfl,rfl⟩
 · obtain ⟨p,hp,rfl⟩:=List.mem_map.mp hx
   obtain ⟨q,hq,rfl⟩:=List.mem_map.mp hy
   have:=dep_it p (h p hp)
   have:=dep_it q (h q hq)
   unfold ltOk
   rw [if_pos (by omega)]
   exact lt_tup (lts fun _=>ltc (lt_enc _ _) (ltn _))
instance:Inhabited F:=⟨.yes⟩
theorem sortL_map {α:Type} [Inhabited α] (g:α→D) (xs:List α):∃ ys:List α,sortL (xs.map g) = ys.map g∧ys.Perm xs:=by
 unfold sortL
 rw [List.length_map]
 split
 · exact ⟨xs,rfl,.refl _⟩
 · have p:=sort_list (lt:=ltIx (xs.map g)) xs.length
   refine ⟨(ans (ltIx (xs.map g)) (PySem.W.kas_sort xs.length)).toList.map fun i=>xs.getD i default,?_,?_⟩
   · rw [List.map_map]
     refine List.map_congr_left fun i hi=>?_
     have hi:i < xs.length:=List.mem_range.mp (p.mem_iff.mp hi)
     show (xs.map g).getD i .non = g (xs.getD i default)
     rw [List.getD_eq_getElem?_getD,List.getElem?_map,List.getD_eq_getElem?_getD,List.getElem?_eq_getElem hi]
     rfl
   · refine (p.map _).trans ?_
     rw [range_map default (fun x=>x) xs,List.map_id']
def srt (xs:List It):List It:=Classical.choose (sortL_map itD xs)
theorem srt_eq (xs:List It):sortL (xs.map itD) = (srt xs).map itD:=(Classical.choose_spec (sortL_map itD xs)).1
theorem srt_perm (xs:List It):(srt xs).Perm xs:=(Classical.choose_spec (sortL_map itD xs)).2
def isL (acc:List It) (x:It):Bool:=match acc.getLast? with
 | some y=>eqD (itD y) (itD x)
 | none=>false
def dd:List It→List It→List It
 | acc,[]=>acc
 | acc,x::xs=>dd (if isL acc x = true then acc else acc++[x]) xs
def mo (l:List It):List It:=dd [] (srt l)
theorem isL_mem {acc:List It} {x:It} (h:isL acc x = true):x∈acc:=by
 unfold isL at h
 split at h
 · rename_i y e
   rw [← eq_it h]
   exact List.mem_of_getLast? e
 · cases h
theorem dd_mem {p:It}:∀ (xs acc:List It),p∈dd acc xs↔p∈acc∨p∈xs
 | [],acc=>by simp [dd]
 | x::xs,acc=>by
   unfold dd
   rw [dd_mem xs]
   split
   · rename_i h
     have:=isL_mem h
     constructor
     · rintro (z | z)
       · exact .inl z
       · exact .inr (List.mem_cons_of_mem _ z)
     · rintro (z | z)
       · exact .inl z
       · rcases List.mem_cons.mp z with z | z
         · rw [z];exact .inl this
         · exact .inr z
   · rw [List.mem_append,List.mem_singleton,List.mem_cons,or_assoc]
theorem dd_len:∀ (xs acc:List It),(dd acc xs).length≤acc.length+xs.length
 | [],acc=>by simp [dd]
 | x::xs,acc=>by
   unfold dd
   have:=dd_len xs (if isL acc x = true then acc else acc++[x])
   have h2:(if isL acc x = true then acc else acc++[x]).length≤acc.length+1:=by
    split
    · omega
    · rw [List.length_append];simp
   rw [List.length_cons]
   omega
theorem mo_mem {p:It} {l:List It}:p∈mo l↔p∈l:=by
 unfold mo
 rw [dd_mem,(srt_perm l).mem_iff]
 simp
theorem mo_len (l:List It):(mo l).length≤l.length:=by
 unfold mo
 have:=dd_len (srt l) []
 rw [(srt_perm l).length_eq] at this
 simpa using this
theorem mo_low {l:List It} (h:low l):low (mo l):=fun p hp=>h p (mo_mem.mp hp)
theorem low.app {a b:List It} (h:low a) (h2:low b):low (a++b):=fun p hp=>(List.mem_append.mp hp).elim (h p) (h2 p)
theorem low.one {p:It} (h:sz p.2≤61):low [p]:=fun q hq=>by rw [List.mem_singleton.mp hq];exact h
end P1
end
section
namespace P1
open PySem L2 PP
theorem hb_strs:∀ ts:List Str,hbL (ts.map D.str) = true
 | []=>by unfold hbL;rfl
 | t::ts=>by rw [List.map_cons];unfold hbL;rw [hb_strs ts];unfold hb;rfl
theorem hb_enc:∀ A:F,hb (enc A) = true
 | .yes | .no=>by unfold enc;decide +kernel
 | .word w ts=>by unfold enc;simp only [hb,hbL,hb_strs,Bool.and_self]
 | .neg a=>by unfold enc;simp only [hb,hbL,hb_enc a,Bool.and_self]
 | .bi b x y=>by unfold enc;simp only [hb,hbL,hb_enc x,hb_enc y,Bool.and_self]
theorem hb_it (p:It):hb (itD p) = true:=by unfold itD;simp only [hb,hbL,hb_enc,Bool.and_self]
theorem it_inj {p q:It} (h:itD p = itD q):p = q:=eq_it ((eqD_iff _ _ (hb_it p) (hb_it q)).mpr h)
def ltI (p q:It):Bool:=(ltD (itD p) (itD q)).getD false
theorem lt_it (p q:It):ltD (itD p) (itD q) = some (ltI p q):=by
 have:(ltD (itD p) (itD q)).isSome = true:=lt_tup (lts fun _=>ltc (lt_enc _ _) (ltn _))
 unfold ltI
 cases e:ltD (itD p) (itD q) with
 | none=>rw [e] at this;cases this
 | some k=>rfl
theorem ltI_as (p q:It) (h:ltI p q = true):ltI q p = false:=by
 rcases ltA_all _ (itD p) (Nat.le_refl _) (itD q) _ _ (hb_it p) (hb_it q) (lt_it p q) (lt_it q p) with ⟨_,e,_⟩ | ⟨_,e⟩
 · rw [h] at e;cases e
 · rw [e,h];rfl
theorem ltI_tr (a b c:It) (h1:ltI b a = false) (h2:ltI c b = false):ltI c a = false :=
 ltT_all _ (itD a) (Nat.le_refl _) (itD b) (itD c) _ (hb_it a) (hb_it b) (hb_it c) (by rw [lt_it,h1]) (by rw [lt_it,h2]) (lt_it c a)
theorem ltI_eq (p q:It) (h1:ltI p q = false) (h2:ltI q p = false):p = q:=by
 rcases ltA_all _ (itD p) (Nat.le_refl _) (itD q) _ _ (hb_it p) (hb_it q) (lt_it p q) (lt_it q p) with ⟨e,_⟩ | ⟨_,e⟩
 · exact it_inj e
 · rw [h1,h2] at e;cases e
theorem map_inj':∀ {as bs:List It},as.map itD = bs.map itD→as = bs
 | [],[],_=>rfl
 | [],_::_,h=>by cases h
 | _::_,[],h=>by cases h
 | a::as,b::bs,h=>by
   rw [List.map_cons,List.map_cons] at h
   injection h with h1 h2
   rw [it_inj h1,map_inj' h2]
theorem srt_up {l:List It} (h:low l):(srt l).Pairwise fun a b=>ltI b a = false:=by
 letI:Inhabited { p:It // sz p.2≤61 }:=⟨⟨(true,.yes),by decide⟩⟩
 have h':∀ p∈l,sz p.2≤61:=h
 obtain ⟨ys,e1,p1,u1⟩:=sortL_up (α:={ p:It // sz p.2≤61 }) (fun p=>itD p.1) (fun a b=>ltI a.1 b.1) (fun x y=>by
  have:=dep_it x.1 x.2
  have:=dep_it y.1 y.2
  unfold ltOk
  rw [if_pos (by omega),lt_it]) (fun a b=>ltI_as a.1 b.1) (fun a b c=>ltI_tr a.1 b.1 c.1) (l.attachWith (fun p=>sz p.2≤61) h')
 have e2:(l.attachWith (fun p:It=>sz p.2≤61) h').map (fun p=>itD p.1) = l.map itD:=by
  rw [show (fun p:{ p:It // sz p.2≤61 }=>itD p.1) = itD ∘ Subtype.val from rfl,← List.map_map,List.attachWith_map_subtype_val]
 rw [e2,srt_eq] at e1
 have e3:srt l = ys.map Subtype.val:=map_inj' (by rw [e1,List.map_map];rfl)
 rw [e3]
 exact List.pairwise_map.mpr (up_pair (lt:=fun (a b:{ p:It // sz p.2≤61 })=>ltI a.1 b.1) u1)
theorem dd_nodup:∀ (xs acc:List It),low (acc++xs)→(acc++xs).Pairwise (fun a b=>ltI b a = false)→acc.Nodup→(dd acc xs).Nodup
 | [],acc,_,_,h=>h
 | x::xs,acc,hl,hp,h=>by
   unfold dd
   split
   · rename_i z
     refine dd_nodup xs acc (fun p hq=>hl p ?_) (hp.sublist ?_) h
     · rcases List.mem_append.mp hq with q | q
       · exact List.mem_append_left _ q
       · exact List.mem_append_right _ (List.mem_cons_of_mem _ q)
     · exact List.Sublist.append_left (List.sublist_cons_self x xs) acc
   · rename_i z
     rw [List.append_cons] at hl hp
     refine dd_nodup xs (acc++[x]) hl hp (List.nodup_append.mpr ⟨h,by simp,fun a ha b hb e=>?_⟩)
     rw [List.mem_singleton] at hb
     subst hb
     subst e
     apply z
     rcases List.eq_nil_or_concat acc with rfl | ⟨l,y,rfl⟩
     · cases ha
     · rw [List.concat_eq_append] at ha hp hl ⊢
       have hp2:=(List.pairwise_append.mp hp).1
       have c1:ltI a y = false:=(List.pairwise_append.mp hp2).2.2 y (by simp) a (by simp)
       have ea:a = y:=by
        rcases List.mem_append.mp ha with q | q
        · have c2:ltI y a = false:=(List.pairwise_append.mp (List.pairwise_append.mp hp2).1).2.2 a q y (by simp)
          exact ltI_eq a y c1 c2
        · exact List.mem_singleton.mp q
       unfold isL
       rw [List.getLast?_append,List.getLast?_singleton,ea]
       exact eq_self y (hl y (by simp))
theorem mo_nodup {l:List It} (h:low l):(mo l).Nodup:=dd_nodup (srt l) [] (fun p hp=>h p ((srt_perm l).mem_iff.mp hp)) (srt_up h) List.nodup_nil
theorem nodup_le:∀ {as bs:List It},as.Nodup→(∀ p∈as,p∈bs)→as.length≤bs.length
 | [],_,_,_=>Nat.zero_le _
 | a::as,bs,h,k=>by
   obtain ⟨n1,n2⟩:=List.nodup_cons.mp h
   obtain ⟨s,t,rfl⟩:=List.append_of_mem (k a List.mem_cons_self)
   have:=nodup_le (as:=as) (bs:=s++t) n2 fun p hp=>by
    have:=k p (List.mem_cons_of_mem _ hp)
    rw [List.mem_append,List.mem_cons] at this
    rw [List.mem_append]
    rcases this with z | z | z
    · exact .inl z
    · rw [z] at hp;exact absurd hp n1
    · exact .inr z
   simp only [List.length_append,List.length_cons] at this ⊢
   omega
end P1
end
section
namespace P1
open PySem L2 PP
theorem last_at {l:List D} {y:D}:atI (l++[y]) (-1) = some y:=by
 unfold atI ixN
 rw [if_neg (by decide),if_pos (by simp;omega)]
 show (l++[y])[(-1+((l++[y]).length:Int)).toNat]? = some y
 have e:(-1+((l++[y]).length:Int)).toNat = l.length:=by rw [List.length_append];simp;omega
 rw [e,List.getElem?_append_right (Nat.le_refl _),Nat.sub_self]
 rfl
theorem ne_it {p q:It} (hp:sz p.2≤61) (hq:sz q.2≤61) {Q:Bool→Prop} (k:Q (!eqD (itD p) (itD q))):wCmp .ne (itD p) (itD q) Q:=by
 refine ⟨_,?_,k⟩
 show (if depOk (itD p) (itD q) = true then some (!eqD (itD p) (itD q)) else none) = _
 have:=dep_it p hp
 have:=dep_it q hq
 rw [if_pos (by unfold depOk;rw [show kin (itD p) (itD q) = true from rfl,Bool.true_and,Bool.and_eq_true,decide_eq_true_eq,decide_eq_true_eq];omega)]
theorem s64:(1000:Nat) < sizeLine:=by decide +kernel
theorem isL_snoc (l:List It) (y x:It):isL (l++[y]) x = eqD (itD y) (itD x):=by
 unfold isL
 rw [List.getLast?_append,List.getLast?_singleton]
 rfl
theorem low.tail {x:It} {xs:List It} (h:low (x::xs)):low xs:=fun p hp=>h p (List.mem_cons_of_mem _ hp)
theorem r_sorted (n:Nat) (l:List It) (h:low l) (hl:l.length < 64):PP.run Gs gls (n+1) 1 [.lst (l.map itD)] = some (.tup ((mo l).map itD)):=by
 apply wRun_out
 refine wRun_def d_sorted_row rfl rfl rfl ?_;simp only [d_sorted_row,init,SI,Nat.reduceAdd,Nat.reduceSub]
 simp only [↓WS,ite_true,ite_false,Bool.false_eq_true,decide_eq_true_eq,↓reduceIte]
 refine ⟨by decide,row_sortable h hl,?_⟩
 rw [srt_eq]
 refine wFor_map (g:=itD) (fun rest δ=>∃ (acc:List It) (s:Sl),δ = [.val (.lst (l.map itD)),.own (acc.map itD),s]∧low acc∧low rest∧dd acc rest = mo l∧acc.length+rest.length < 64) ?_ ?_ _ _ ⟨[],_,rfl,(fun p hp=>by cases hp),(fun p hp=>h p ((srt_perm l).mem_iff.mp hp)),rfl,by rw [List.length_nil,(srt_perm l).length_eq];omega⟩
 · rintro x rest δ ⟨acc,s,rfl,ha,hr,e,hlen⟩
   rw [List.length_cons] at hlen
   have hx:=hr x List.mem_cons_self
   have ss:=s64
   rw [dd] at e
   have app:isL acc x = false→∃ (acc':List It) (s:Sl),([.val (.lst (l.map itD)),.own (acc.map itD++[itD x]),.val (itD x)]:PP.Loc) = [.val (.lst (l.map itD)),.own (acc'.map itD),s]∧low acc'∧low rest∧dd acc' rest = mo l∧acc'.length+rest.length < 64:=fun z=>by
    rw [z,if_neg Bool.false_ne_true] at e
    exact ⟨acc++[x],_,by rw [List.map_append];rfl,ha.app (.one hx),hr.tail,e,by rw [List.length_append];simp only [List.length_cons,List.length_nil];omega⟩
   rcases List.eq_nil_or_concat acc with rfl | ⟨l',y,rfl⟩
   · simp only [List.map_nil,↓WS,ite_true,ite_false,Bool.false_eq_true,decide_eq_true_eq,↓reduceIte]
     exact ⟨by decide,app rfl⟩
   · rw [List.concat_eq_append] at e hlen app ha ⊢
     have hy:=ha y (by simp)
     rw [List.map_append] at app ⊢
     have hne:(!!(l'.map itD++[y].map itD).isEmpty) = false:=by cases l'<;>rfl
     simp only [hne,↓WS,ite_true,ite_false,Bool.false_eq_true,decide_eq_true_eq,↓reduceIte]
     refine ⟨itD y,last_at,ne_it hy hx ?_⟩
     rw [isL_snoc] at app e
     cases eb:eqD (itD y) (itD x) with
     | true =>
       rw [eb,if_pos rfl] at e
       exact ⟨l'++[y],_,by rw [List.map_append],ha,hr.tail,e,by omega⟩
     | false=>exact ⟨by simp only [List.length_append,List.length_map,List.length_cons,List.length_nil] at hlen ⊢;omega,app eb⟩
 · rintro δ ⟨acc,s,rfl,_,_,e,_⟩
   simp only [↓WS,ite_true,ite_false,Bool.false_eq_true,decide_eq_true_eq,↓reduceIte]
   rw [← e]
   rfl
theorem r_more (n:Nat) (r ad:List It) (a:D) (ha:a = .lst (ad.map itD)∨a = .tup (ad.map itD)) (h:low (r++ad)) (hl:r.length+ad.length < 64):PP.run Gs gls (n+2) 2 [.tup (r.map itD),a] = some (.tup ((mo (r++ad)).map itD)):=by
 have w:=r_sorted n (r++ad) h (by rw [List.length_append];exact hl)
 rw [List.map_append] at w
 have ss:=s64
 apply wRun_out
 refine wRun_def d_more rfl rfl rfl ?_;simp only [d_more,init,SI,Nat.reduceAdd,Nat.reduceSub]
 rcases ha with rfl | rfl
 · simp only [↓WS,ite_true,ite_false,Bool.false_eq_true,decide_eq_true_eq,↓reduceIte]
   exact ⟨by rw [List.length_map,List.length_map];omega,(wRun_eq w).mpr rfl⟩
 · simp only [↓WS,ite_true,ite_false,Bool.false_eq_true,decide_eq_true_eq,↓reduceIte]
   exact ⟨by rw [List.length_map,List.length_map];omega,(wRun_eq w).mpr rfl⟩
theorem r_once (n:Nat) (l:List It) (h:low l) (hl:l.length < 64):PP.run Gs gls (n+1) 23 [.lst (l.map itD)] = some (.tup ((mo l).map itD)):=by
 apply wRun_out
 refine wRun_def d__law_once rfl rfl rfl ?_;simp only [d__law_once,init,SI,Nat.reduceAdd,Nat.reduceSub]
 simp only [↓WS,ite_true,ite_false,Bool.false_eq_true,decide_eq_true_eq,↓reduceIte]
 refine ⟨by decide,row_sortable h hl,?_⟩
 rw [srt_eq]
 refine wFor_map (g:=itD) (fun rest δ=>∃ (acc:List It) (s:Sl),δ = [.val (.lst (l.map itD)),.own (acc.map itD),s]∧low acc∧low rest∧dd acc rest = mo l∧acc.length+rest.length < 64) ?_ ?_ _ _ ⟨[],_,rfl,(fun p hp=>by cases hp),(fun p hp=>h p ((srt_perm l).mem_iff.mp hp)),rfl,by rw [List.length_nil,(srt_perm l).length_eq];omega⟩
 · rintro x rest δ ⟨acc,s,rfl,ha,hr,e,hlen⟩
   rw [List.length_cons] at hlen
   have hx:=hr x List.mem_cons_self
   have ss:=s64
   rw [dd] at e
   have app:isL acc x = false→(acc.map itD).length < sizeLine∧∃ (acc':List It) (s:Sl),([.val (.lst (l.map itD)),.own (acc.map itD++[itD x]),.val (itD x)]:PP.Loc) = [.val (.lst (l.map itD)),.own (acc'.map itD),s]∧low acc'∧low rest∧dd acc' rest = mo l∧acc'.length+rest.length < 64:=fun z=>by
    rw [z,if_neg Bool.false_ne_true] at e
    exact ⟨by rw [List.length_map];omega,acc++[x],_,by rw [List.map_append];rfl,ha.app (.one hx),hr.tail,e,by rw [List.length_append];simp only [List.length_cons,List.length_nil];omega⟩
   have keep:isL acc x = true→∃ (acc':List It) (s:Sl),([.val (.lst (l.map itD)),.own (acc.map itD),.val (itD x)]:PP.Loc) = [.val (.lst (l.map itD)),.own (acc'.map itD),s]∧low acc'∧low rest∧dd acc' rest = mo l∧acc'.length+rest.length < 64:=fun z=>by
    rw [z,if_pos rfl] at e
    exact ⟨acc,_,rfl,ha,hr.tail,e,by omega⟩
   have cut:cutD (acc.map itD) (some (-1)) none = match acc.getLast? with
    | some y=>[itD y]
    | none=>[]:=by
    rcases List.eq_nil_or_concat acc with rfl | ⟨l',y,rfl⟩
    · rfl
    · rw [List.concat_eq_append,List.getLast?_append,List.getLast?_singleton]
      unfold cutD
      rw [show HT.sIx ((l'++[y]).map itD).length ((l'++[y]).map itD).length none = ((l'++[y]).map itD).length from rfl]
      have e1:HT.sIx ((l'++[y]).map itD).length 0 (some (-1)) = l'.length:=by
       unfold HT.sIx
       simp
       omega
      rw [e1,List.map_append]
      simp
   simp only [↓WS,ite_true,ite_false,Bool.false_eq_true,decide_eq_true_eq,↓reduceIte]
   refine ⟨_,by show some (D.lst (cutD (acc.map itD) (some (-1)) none)) = _;rw [cut],?_⟩
   have nin:∀ (o:Option It),(∀ y,o = some y→sz y.2≤61)→∀ Q:Bool→Prop,Q (!(match o with | some y=>eqD (itD y) (itD x) | none=>false))→wCmp .notin (itD x) (.lst (match o with | some y=>[itD y] | none=>[])) Q:=fun o ho Q q=>by
    have dx:=dep_it x hx
    cases o with
    | none=>exact ⟨true,by show (inD (itD x) (.lst [])).map (!·) = _;unfold inD;dsimp only;rw [if_pos ⟨by omega,by unfold depL;omega⟩];rfl,q⟩
    | some y =>
      have dy:=dep_it y (ho y rfl)
      refine ⟨!eqD (itD y) (itD x),?_,q⟩
      show (inD (itD x) (.lst [itD y])).map (!·) = _
      unfold inD
      dsimp only
      rw [if_pos ⟨by omega,by unfold depL depL;omega⟩]
      simp
   refine nin _ (fun y hy=>ha y (List.mem_of_getLast? hy)) _ ?_
   change if (!isL acc x) = true then _ else _
   cases z:isL acc x with
   | true=>exact keep z
   | false=>exact app z
 · rintro δ ⟨acc,s,rfl,_,_,e,_⟩
   simp only [↓WS,ite_true,ite_false,Bool.false_eq_true,decide_eq_true_eq,↓reduceIte]
   rw [← e]
   rfl
theorem r_lmore (n:Nat) (r ad:List It) (r' a:D) (hr:r' = .lst (r.map itD)∨r' = .tup (r.map itD)) (ha:a = .lst (ad.map itD)) (h:low (r++ad)) (hl:r.length+ad.length < 64):PP.run Gs gls (n+2) 32 [r',a] = some (.tup ((mo (r++ad)).map itD)):=by
 have w:=r_once n (r++ad) h (by rw [List.length_append];exact hl)
 rw [List.map_append] at w
 have ss:=s64
 apply wRun_out
 subst ha
 refine wRun_def d__law_more rfl rfl rfl ?_;simp only [d__law_more,init,SI,Nat.reduceAdd,Nat.reduceSub]
 rcases hr with rfl | rfl
 · simp only [↓WS,ite_true,ite_false,Bool.false_eq_true,decide_eq_true_eq,↓reduceIte]
   exact ⟨by rw [List.length_map,List.length_map];omega,(wRun_eq w).mpr rfl⟩
 · simp only [↓WS,ite_true,ite_false,Bool.false_eq_true,decide_eq_true_eq,↓reduceIte]
   exact ⟨by rw [List.length_map,List.length_map];omega,(wRun_eq w).mpr rfl⟩
def cl (ps:List It):Bool:=has ps (false,.yes) || (has ps (true,.no) || ps.any fun p=>p.1 && has ps (false,p.2))
def clo (S:It→Prop):Prop:=S (false,.yes)∨S (true,.no)∨∃ A,S (true,A)∧S (false,A)
theorem cl_iff {ps:List It} (h:low ps):cl ps = true↔clo (·∈ps):=by
 unfold cl clo
 rw [Bool.or_eq_true,Bool.or_eq_true,has_iff h,has_iff h,List.any_eq_true]
 refine or_congr Iff.rfl (or_congr Iff.rfl ⟨?_,?_⟩)
 · rintro ⟨⟨b,A⟩,hp,e⟩
   rw [Bool.and_eq_true,has_iff h] at e
   obtain ⟨e1,e2⟩:=e
   cases b with
   | true=>exact ⟨A,hp,e2⟩
   | false=>cases e1
 · rintro ⟨A,h1,h2⟩
   exact ⟨(true,A),h1,by rw [Bool.and_eq_true,has_iff h];exact ⟨rfl,h2⟩⟩
theorem bools_map {α:Type} (f:α→Bool):∀ xs:List α,boolsD (xs.map fun x=>D.bl (f x)) = some (xs.map f)
 | []=>rfl
 | x::xs=>by
   rw [List.map_cons]
   unfold boolsD
   rw [bools_map f xs]
   rfl
theorem any_map {α:Type} (f:α→Bool) (xs:List α) {Q:D→Prop} (q:Q (.bl (xs.any f))):wBlt .any [.lst (xs.map fun x=>D.bl (f x))] Q:=by
 refine ⟨.bl (xs.any f),?_,q⟩
 show (boolsD (xs.map fun x=>D.bl (f x))).map (fun bs=>D.bl (bs.any id)) = _
 rw [bools_map]
 show some (D.bl ((xs.map f).any id)) = _
 rw [List.any_map]
 rfl
theorem sd_l (b:Bool):(sd b == "left") = b:=by cases b<;>decide +kernel
theorem sd_r (b:Bool):(sd b == "right") = !b:=by cases b<;>decide +kernel
theorem r_closes (n:Nat) (ps:List It) (h:low ps) (hl:ps.length≤1000):PP.run Gs gls (n+1) 3 [.tup (ps.map itD)] = some (.bl (cl ps)):=by
 have ss:=s64
 apply wRun_out
 refine wRun_def d_closes rfl rfl rfl ?_;simp only [d_closes,init,SI,Nat.reduceAdd,Nat.reduceSub]
 simp only [List.length_cons,List.length_nil,↓wCmp_inT,↓WS,ite_true,ite_false,Bool.false_eq_true,decide_eq_true_eq,↓reduceIte]
 have dl:=dep_its h
 refine ⟨by decide,by decide,⟨by decide +kernel,by omega⟩,iteI (fun h1=>?_) fun h1=>⟨by decide,by decide,⟨by decide +kernel,by omega⟩,iteI (fun h2=>?_) fun h2=>?_⟩⟩
 · have e:has ps (false,.yes) = true:=h1
   unfold cl;rw [e];rfl
 · have e:has ps (true,.no) = true:=h2
   unfold cl;rw [e,Bool.true_or,Bool.or_true]
 · have e1:has ps (false,.yes) = false:=Bool.eq_false_iff.mpr h1
   have e2:has ps (true,.no) = false:=Bool.eq_false_iff.mpr h2
   refine wComp_map itD (fun _=>true) (fun p=>.bl (p.1 && has ps (false,p.2))) ps (fun p hp=>?_) ⟨?_,?_⟩
   · obtain ⟨b,A⟩:=p
     show wTg [Sl.val (D.tup (ps.map itD)),.no,.no] (Tg.tp [1,2]) (D.tup [D.str (sd b),enc A]) _
     simp only [↓wTg_tp2,sd_l,SI,↓WS,ite_true,ite_false,Bool.false_eq_true,decide_eq_true_eq,↓reduceIte]
     refine ⟨trivial,?_⟩
     cases b with
     | false=>exact ⟨rfl,rfl⟩
     | true=>exact ⟨by decide,in_ok (q:=(false,A)) h (h (true,A) hp),rfl,rfl⟩
   · rw [List.length_map,List.filter_eq_self.mpr fun _ _=>rfl];omega
   · rw [List.filter_eq_self.mpr fun _ _=>rfl]
     refine any_map _ _ ?_
     unfold cl
     rw [e1,e2]
     rfl
end P1
end
section
namespace P1
open PySem L2 PP
theorem wCmp_neI {a b:Int} {Q:Bool→Prop}:wCmp .ne (.int a) (.int b) Q↔Q (!(a == b)):=yr
theorem eq_tups {as bs:List D} (h:min (depL as) (depL bs)≤149) (h2:max (depL as) (depL bs) < 99999) {Q:Bool→Prop} (k:Q (eqD (.tup as) (.tup bs))):wCmp .eq (.tup as) (.tup bs) Q:=by
 refine ⟨_,?_,k⟩
 show (if depOk (.tup as) (.tup bs) = true then some (eqD (.tup as) (.tup bs)) else _) = _
 rw [if_pos]
 unfold depOk
 rw [show kin (.tup as) (.tup bs) = true from rfl,Bool.true_and,Bool.and_eq_true,decide_eq_true_eq,decide_eq_true_eq]
 unfold dep
 omega
theorem eq_encs {A B:F} (h:sz A≤61) (h2:sz B≤61) {Q:Bool→Prop} (k:Q (eqD (enc A) (enc B))):wCmp .eq (enc A) (enc B) Q:=by
 have a:=dep_enc A
 have b:=dep_enc B
 rw [enc_eq A,enc_eq B] at k ⊢
 rw [enc_eq A] at a
 rw [enc_eq B] at b
 unfold dep at a b
 exact eq_tups (by omega) (by omega) k
def lf (ps:List It) (p:It):Bool:=(p.1 && (eqD (enc p.2) (enc .no) || has ps (false,p.2))) || (!p.1 && eqD (enc p.2) (enc .yes))
theorem lf_cl {ps:List It} (h:low ps):ps.any (lf ps) = cl ps:=by
 rw [Bool.eq_iff_iff,cl_iff h,List.any_eq_true]
 unfold lf clo
 constructor
 · rintro ⟨⟨b,A⟩,hp,e⟩
   rw [Bool.or_eq_true,Bool.and_eq_true,Bool.and_eq_true,Bool.or_eq_true,has_iff h] at e
   rcases e with ⟨e1,e2 | e2⟩ | ⟨e1,e2⟩
   · have e3:b = true:=e1
     rw [e3,show A = .no from eq_enc _ _ e2] at hp
     exact .inr (.inl hp)
   · have e3:b = true:=e1
     rw [e3] at hp
     exact .inr (.inr ⟨A,hp,e2⟩)
   · have e3:b = false:=by simpa using e1
     rw [e3,show A = .yes from eq_enc _ _ e2] at hp
     exact .inl hp
 · rintro (hp | hp | ⟨A,h1,h2⟩)
   · exact ⟨_,hp,by rw [Bool.or_eq_true];exact .inr (by decide +kernel)⟩
   · exact ⟨_,hp,by rw [Bool.or_eq_true];left;rw [Bool.and_eq_true,Bool.or_eq_true];exact ⟨rfl,.inl (by decide +kernel)⟩⟩
   · exact ⟨_,h1,by rw [Bool.or_eq_true];left;rw [Bool.and_eq_true,Bool.or_eq_true,has_iff h];exact ⟨rfl,.inr h2⟩⟩
theorem r_lcloses (n:Nat) (ps:List It) (h:low ps):PP.run Gs gls (n+1) 33 [.tup (ps.map itD)] = some (.bl (cl ps)):=by
 apply wRun_out
 refine wRun_def d__law_closes rfl rfl rfl ?_;simp only [d__law_closes,init,SI,Nat.reduceAdd,Nat.reduceSub]
 simp only [↓WS,ite_true,ite_false,Bool.false_eq_true,decide_eq_true_eq,↓reduceIte]
 refine wFor_map (g:=itD) (fun rest δ=>∃ s1 s2:Sl,δ = [.val (.tup (ps.map itD)),s1,s2]∧(∀ p∈rest,p∈ps)∧rest.any (lf ps) = cl ps) ?_ ?_ _ _ ⟨_,_,rfl,fun p hp=>hp,lf_cl h⟩
 · rintro p rest δ ⟨s1,s2,rfl,hm,e⟩
   have hp:=h p (hm p List.mem_cons_self)
   rw [List.any_cons] at e
   obtain ⟨b,A⟩:=p
   have hA:sz A≤61:=hp
   have nx:lf ps (b,A) = false→∃ s1 s2:Sl,([.val (.tup (ps.map itD)),.val (.str (sd b)),.val (enc A)]:PP.Loc) = [.val (.tup (ps.map itD)),s1,s2]∧(∀ p∈rest,p∈ps)∧rest.any (lf ps) = cl ps:=fun z=>⟨_,_,rfl,fun q hq=>hm q (List.mem_cons_of_mem _ hq),by rw [z,Bool.false_or] at e;exact e⟩
   have fin:lf ps (b,A) = true→D.bl true = D.bl (cl ps):=fun z=>by rw [z,Bool.true_or] at e;rw [← e]
   unfold itD
   cases b with
   | true =>
     simp only [List.length_cons,List.length_nil,sd_l,sd_r,↓WS,ite_true,ite_false,Bool.false_eq_true,decide_eq_true_eq,↓reduceIte]
     refine ⟨by decide,eq_encs (B:=.no) hA (by decide) (iteI (fun z=>?_) fun z=>?_)⟩
     · exact fin (by unfold lf;rw [z];rfl)
     · refine ⟨by decide,in_ok (q:=(false,A)) h hA,iteI (fun z2=>?_) fun z2=>?_⟩
       · have z2:has ps (false,A) = true:=z2
         exact fin (by unfold lf;rw [z2];simp)
       · have z2:¬ has ps (false,A) = true:=z2
         exact nx (by unfold lf;rw [Bool.eq_false_iff.mpr z,Bool.eq_false_iff.mpr z2];rfl)
   | false =>
     simp only [List.length_cons,List.length_nil,sd_l,sd_r,↓WS,ite_true,ite_false,Bool.false_eq_true,decide_eq_true_eq,↓reduceIte]
     refine ⟨by decide,eq_encs (B:=.yes) hA (by decide) (iteI (fun z=>?_) fun z=>?_)⟩
     · exact fin (by unfold lf;rw [z];rfl)
     · exact nx (by unfold lf;rw [Bool.eq_false_iff.mpr z];rfl)
 · rintro δ ⟨s1,s2,rfl,_,e⟩
   simp only [↓WS,ite_true,ite_false,Bool.false_eq_true,decide_eq_true_eq,↓reduceIte]
   rw [← e]
   rfl
def sB:B→Bool | .and=>false | .or=>true | .imp=>true
def fB:B→Bool | .and=>false | .or=>true | .imp=>false
def p1 (b:B) (x:F):It:=(fB b,x)
def p2 (b:B) (y:F):It:=(sB b,y)
inductive T where
 | close | rule (b:B) (x y:F) (t1 t2:T)
def encT:T→D
 | .close=>.tup [.str "close"]
 | .rule b x y t1 t2=>.tup [.str "rule",.str (sd (sB b)),enc (.bi b x y),.str "",.tup [encT t1,encT t2]]
def ht:T→Nat
 | .close=>1
 | .rule _ _ _ t1 t2=>max (ht t1) (ht t2)+1
def okT:T→Prop
 | .close=>True
 | .rule b x y t1 t2=>sz (.bi b x y)≤61∧okT t1∧okT t2
theorem dep_T:∀ t:T,okT t→dep (encT t)≤2 * ht t+64
 | .close,_=>by unfold encT;simp [dep,depL]
 | .rule b x y t1 t2,⟨o,o1,o2⟩=>by
   have:=dep_T t1 o1
   have:=dep_T t2 o2
   have:=dep_enc (.bi b x y)
   unfold encT
   simp only [dep,depL,dep_str,ht]
   omega
theorem r_parts (n:Nat) (b:B) (x y:F):PP.run Gs gls (n+4) 6 [.str (sd (sB b)),enc (.bi b x y),.str ""] = some (.lst [.lst [itD (p1 b x)],.lst [itD (p2 b y)]]):=by cases b<;>kernel_rfl
theorem r_branches (n:Nat) (b:B) (x y:F):PP.run Gs gls (n+4) 34 [.str (sd (sB b)),enc (.bi b x y),.str ""] = some (.lst [.lst [itD (p1 b x)],.lst [itD (p2 b y)]]):=by cases b<;>kernel_rfl
theorem r_added (n:Nat) (b:B) (x y:F) (t1 t2:T):PP.run Gs gls (n+5) 10 [encT (.rule b x y t1 t2)] = some (.lst [.lst [itD (p1 b x)],.lst [itD (p2 b y)]]):=by cases b<;>kernel_rfl
theorem isC {t:T} (o:okT t) (hh:ht t≤1000) {Q:Bool→Prop} (k:Q (match t with | .close=>true | _=>false)):wCmp .eq (encT t) (.tup [.str "close"]) Q:=by
 have d:=dep_T t o
 cases t with
 | close=>exact eq_tups (by simp [depL,dep]) (by simp [depL,dep]) (by rw [show eqD (D.tup [.str "close"]) (.tup [.str "close"]) = true by decide +kernel];exact k)
 | rule b x y t1 t2 =>
   unfold encT at d ⊢
   unfold dep at d
   refine eq_tups (by simp only [depL,dep_str];omega) (by simp only [depL,dep_str] at d ⊢;omega) ?_
   rw [show eqD (D.tup [.str "rule",.str (sd (sB b)),enc (.bi b x y),.str "",.tup [encT t1,encT t2]]) (.tup [.str "close"]) = false by kernel_rfl]
   exact k
end P1
end
section
namespace P1
open PySem L2 PP
def prf:(It→Prop)→T→Prop
 | S,.close=>clo S
 | S,.rule b x y t1 t2=>S (sB b,.bi b x y)∧prf (fun p=>S p∨p = p1 b x) t1∧prf (fun p=>S p∨p = p2 b y) t2
theorem prf_mono:∀ {t:T} {S S':It→Prop},(∀ p,S p→S' p)→prf S t→prf S' t
 | .close,S,S',h,k=>by
   rcases k with k | k | ⟨A,k1,k2⟩
   · exact .inl (h _ k)
   · exact .inr (.inl (h _ k))
   · exact .inr (.inr ⟨A,h _ k1,h _ k2⟩)
 | .rule b x y t1 t2,S,S',h,k=>⟨h _ k.1,prf_mono (fun p z=>z.imp (h p) id) k.2.1,prf_mono (fun p z=>z.imp (h p) id) k.2.2⟩
theorem szL {b:B} {x y:F} (o:sz (.bi b x y)≤61):sz x≤61∧sz y≤61:=by
 simp only [sz] at o
 omega
theorem wE_g4 {c:Nat→List D→Option D} {f:Nat→Bool} {δ:PP.Loc} {Q:D→PP.Loc→Prop}:wE ⟨c,gls,f⟩ (.glob 4) δ Q↔Q (.tup [.str "close"]) δ:=wE_glob.trans ⟨fun ⟨d,e,q⟩=>by cases e;exact q,fun q=>⟨_,rfl,q⟩⟩
theorem ifs_no {cx:Cl} {c:E} {a b:Ss} {δ:PP.Loc} {Q:Out→Prop} (h:wT cx c δ fun k δ1=>k = false∧δ1 = δ) (q:wSs cx b δ Q):wS cx (.ifs c a b) δ Q:=wS_if' (δ0:=δ) (fun k=>k = false) (let ⟨k,δ1,e,p⟩:=h;⟨k,δ1,e,p.2,p.1⟩) (fun z=>by cases z) fun _=>q
theorem ifs_yes {cx:Cl} {c:E} {a b:Ss} {δ:PP.Loc} {Q:Out→Prop} (h:wT cx c δ fun k δ1=>k = true∧δ1 = δ) (q:wSs cx a δ Q):wS cx (.ifs c a b) δ Q:=wS_if' (δ0:=δ) (fun k=>k = true) (let ⟨k,δ1,e,p⟩:=h;⟨k,δ1,e,p.2,p.1⟩) (fun _=>q) fun z=>by cases z
theorem notin_mem {ps:List It} {q:It} (h:low ps) (hq:q∈ps) {Q:Bool→Prop} (k:Q false):wCmp .notin (itD q) (.tup (ps.map itD)) Q:=by
 refine ⟨false,?_,k⟩
 show (inD (itD q) (.tup (ps.map itD))).map (!·) = _
 unfold inD
 dsimp only
 rw [if_pos (in_ok h (h q hq)),show ((ps.map itD).any fun y=>eqD y (itD q)) = true from (has_iff h).mpr hq]
 rfl
theorem r_stands (n:Nat) (row:List It) (b:B) (x y:F) (t1 t2:T) (h:low row) (hm:(sB b,F.bi b x y)∈row):PP.run Gs gls (n+2) 12 [.tup (row.map itD),encT (.rule b x y t1 t2)] = some (.bl true):=by
 apply wRun_out
 refine wRun_def d_stands_at rfl rfl rfl ?_;simp only [d_stands_at,init,SI,Nat.reduceAdd,Nat.reduceSub]
 refine wSs_run 1 [.val (.tup (row.map itD)),.val (encT (.rule b x y t1 t2)),.val (.str (sd (sB b))),.val (enc (.bi b x y)),.val (.str "")] (by kernel_rfl) ?_
 refine wSs_cons.mpr (ifs_no ?_ (wSs_nil.mpr (thenS_nx.mpr ⟨.rt (.bl true) [.val (.tup (row.map itD)),.val (encT (.rule b x y t1 t2)),.val (.str (sd (sB b))),.val (enc (.bi b x y)),.val (.str "")],by cases b<;>kernel_rfl,rfl⟩)))
 simp only [List.length_cons,List.length_nil,↓WS,ite_true,ite_false,Bool.false_eq_true,decide_eq_true_eq,↓reduceIte]
 exact ⟨by decide,notin_mem h hm (by simp)⟩
theorem lapp {row:List It} {p:It} {k m:Nat} (h:row.length+k+1≤m):(mo (row++[p])).length+k≤m:=by
 have:=mo_len (row++[p])
 rw [List.length_append,List.length_singleton] at this
 omega
theorem r_above (n:Nat) (row:List It) (b:B) (x y:F) (t1 t2:T) (h:low row) (o:sz (.bi b x y)≤61) (hl:row.length≤62):PP.run Gs gls (n+6) 11 [.tup (row.map itD),encT (.rule b x y t1 t2)] = some (.lst [.tup ((mo (row++[p1 b x])).map itD),.tup ((mo (row++[p2 b y])).map itD)]):=by
 obtain ⟨ox,oy⟩:=szL o
 have w1:=r_more (n+3) row [p1 b x] _ (.inl rfl) (h.app (.one ox)) (by simp only [List.length_cons,List.length_nil];omega)
 have w2:=r_more (n+3) row [p2 b y] _ (.inl rfl) (h.app (.one oy)) (by simp only [List.length_cons,List.length_nil];omega)
 have w3:=r_added n b x y t1 t2
 apply wRun_out
 refine wRun_def d_rows_above rfl rfl rfl ?_;simp only [d_rows_above,init,SI,Nat.reduceAdd,Nat.reduceSub]
 simp only [↓wRun_eq w3,↓wComp_cons,↓wComp_nil,SI,List.take,Nat.reduceAdd,↓WS,ite_true,ite_false,Bool.false_eq_true,decide_eq_true_eq,↓reduceIte]
 exact (wRun_eq w1).mpr ((wRun_eq w2).mpr ⟨by decide,rfl⟩)
theorem r_kids (n:Nat) (b:B) (x y:F) (t1 t2:T) (o:okT (.rule b x y t1 t2)) (hh:ht (.rule b x y t1 t2)≤1000):PP.run Gs gls (n+1) 8 [encT (.rule b x y t1 t2)] = some (.tup [encT t1,encT t2]):=by
 apply wRun_out
 refine wRun_def d_kids_of rfl rfl rfl ?_;simp only [d_kids_of,init,SI,Nat.reduceAdd,Nat.reduceSub]
 simp only [↓wE_g4,↓WS,ite_true,ite_false,Bool.false_eq_true,decide_eq_true_eq,↓reduceIte]
 refine isC o hh ?_
 simp only [encT,↓WS,ite_true,ite_false,Bool.false_eq_true,decide_eq_true_eq,↓reduceIte]
 exact ⟨_,rfl,rfl⟩
theorem r_fits:∀ (t:T) (row:List It) (n:Nat),low row→okT t→ht t+8≤n→row.length+ht t≤63→prf (·∈row) t→PP.run Gs gls n 13 [.tup (row.map itD),encT t] = some (.bl true)
 | .close,row,n+1,h,o,hn,hl,k=>by
   obtain ⟨m,rfl⟩:∃ m,n = m+1:=⟨n - 1,by simp only [ht] at hn;omega⟩
   have w:=r_closes m row h (by simp only [ht] at hl;omega)
   rw [(cl_iff h).mpr k] at w
   apply wRun_out
   refine wRun_def d_fits rfl rfl rfl ?_;simp only [d_fits,init,SI,Nat.reduceAdd,Nat.reduceSub]
   refine wSs_cons.mpr (ifs_yes ?_ ?_)
   · simp only [↓wE_g4,↓WS,ite_true,ite_false,Bool.false_eq_true,decide_eq_true_eq,↓reduceIte]
     exact isC o (by decide) (by simp)
   · simp only [↓wRun_eq w,↓WS,ite_true,ite_false,Bool.false_eq_true,decide_eq_true_eq,↓reduceIte]
 | .rule b x y t1 t2,row,n+1,h,o,hn,hl,k=>by
   obtain ⟨m,rfl⟩:∃ m,n = m+6:=⟨n - 6,by simp only [ht] at hn;omega⟩
   simp only [ht] at hn hl
   have hm:(sB b,F.bi b x y)∈row:=k.1
   have l1:=mo_low (h.app (.one (p:=p1 b x) (szL o.1).1))
   have l2:=mo_low (h.app (.one (p:=p2 b y) (szL o.1).2))
   have f1:=r_fits t1 (mo (row++[p1 b x])) (m+6) l1 o.2.1 (by omega) (by have:=lapp (row:=row) (p:=p1 b x) (k:=ht t1) (m:=63) (by omega);omega) (prf_mono (fun p z=>mo_mem.mpr (List.mem_append.mpr (z.imp id fun e=>by rw [e];exact List.mem_singleton_self _))) k.2.1)
   have f2:=r_fits t2 (mo (row++[p2 b y])) (m+6) l2 o.2.2 (by omega) (by have:=lapp (row:=row) (p:=p2 b y) (k:=ht t2) (m:=63) (by omega);omega) (prf_mono (fun p z=>mo_mem.mpr (List.mem_append.mpr (z.imp id fun e=>by rw [e];exact List.mem_singleton_self _))) k.2.2)
   have w1:=r_stands (m+4) row b x y t1 t2 h hm
   have w2:=r_above m row b x y t1 t2 h o.1 (by omega)
   have w3:=r_kids (m+5) b x y t1 t2 o (by simp only [ht];omega)
   apply wRun_out
   refine wRun_def d_fits rfl rfl rfl ?_;simp only [d_fits,init,SI,Nat.reduceAdd,Nat.reduceSub]
   refine wSs_cons.mpr (ifs_no ?_ (wSs_nil.mpr (thenS_nx.mpr ?_)))
   · simp only [↓wE_g4,↓WS,ite_true,ite_false,Bool.false_eq_true,decide_eq_true_eq,↓reduceIte]
     exact isC o (by simp only [ht];omega) (by simp)
   refine wSs_cons.mpr (ifs_no ?_ (wSs_nil.mpr (thenS_nx.mpr ?_)))
   · simp only [encT,↓WS,ite_true,ite_false,Bool.false_eq_true,decide_eq_true_eq,↓reduceIte]
     rw [if_pos (by decide +kernel)]
     exact (wRun_eq w1).mpr (by simp only [↓WS,ite_true,ite_false,Bool.false_eq_true,decide_eq_true_eq,↓reduceIte];simp)
   simp only [↓wRun_eq w2,↓wRun_eq w3,↓wS_forZ,↓wCmp_neI,↓WS,ite_true,ite_false,Bool.false_eq_true,decide_eq_true_eq,↓reduceIte]
   rw [if_neg (by simp),if_neg (by simp)]
   refine ⟨_,_,_,_,rfl,rfl,rfl,?_⟩
   show wFor _ _ _ [D.tup [D.tup ((mo (row++[p1 b x])).map itD),encT t1],D.tup [D.tup ((mo (row++[p2 b y])).map itD),encT t2]] _ _
   simp only [↓wFor_cons,↓wFor_nil,↓wRun_eq f1,↓wRun_eq f2,Bool.not_true,↓WS,ite_true,ite_false,Bool.false_eq_true,decide_eq_true_eq,↓reduceIte]
 | t,row,0,_,_,hn,_,_=>by omega
def nd:T→Nat
 | .close=>1
 | .rule _ _ _ t1 t2=>nd t1+nd t2+1
def subs:T→List T
 | .close=>[.close]
 | .rule b x y t1 t2=>.rule b x y t1 t2::(subs t1++subs t2)
theorem subs_len:∀ t:T,(subs t).length = nd t
 | .close=>rfl
 | .rule b x y t1 t2=>by simp only [subs,nd,List.length_cons,List.length_append,subs_len t1,subs_len t2]
theorem r_within:∀ (t:T) (n:Nat),okT t→ht t≤500→nd t≤1000→ht t+1≤n→PP.run Gs gls n 14 [encT t] = some (.lst ((subs t).map encT))
 | .close,n+1,o,hh,hd,hn=>by
   obtain ⟨m,rfl⟩:∃ m,n = m+1:=⟨n - 1,by simp only [ht] at hn;omega⟩
   have w:PP.run Gs gls (m+1) 8 [encT .close] = some (.tup []):=by kernel_rfl
   apply wRun_out
   refine wRun_def d_trees_within rfl rfl rfl ?_;simp only [d_trees_within,init,SI,Nat.reduceAdd,Nat.reduceSub]
   simp only [List.length_cons,List.length_nil,↓wRun_eq w,↓wFor_nil,↓WS,ite_true,ite_false,Bool.false_eq_true,decide_eq_true_eq,↓reduceIte]
   exact ⟨by decide,rfl⟩
 | .rule b x y t1 t2,n+1,o,hh,hd,hn=>by
   simp only [ht] at hh hn
   simp only [nd] at hd
   obtain ⟨m,rfl⟩:∃ m,n = m+1:=⟨n - 1,by omega⟩
   have w:=r_kids m b x y t1 t2 o (by simp only [ht];omega)
   have w1:=r_within t1 (m+1) o.2.1 (by omega) (by omega) (by omega)
   have w2:=r_within t2 (m+1) o.2.2 (by omega) (by omega) (by omega)
   have ss:=s64
   apply wRun_out
   refine wRun_def d_trees_within rfl rfl rfl ?_;simp only [d_trees_within,init,SI,Nat.reduceAdd,Nat.reduceSub]
   simp only [List.length_cons,List.length_nil,↓wRun_eq w,↓wRun_eq w1,↓wRun_eq w2,↓wFor_cons,↓wFor_nil,↓WS,ite_true,ite_false,Bool.false_eq_true,decide_eq_true_eq,↓reduceIte]
   have l1:=subs_len t1
   have l2:=subs_len t2
   refine ⟨by decide,by simp only [List.length_map];omega,by simp only [List.length_map,List.length_cons,List.length_nil,List.length_append];omega,?_⟩
   simp only [subs,List.map_cons,List.map_append,List.cons_append,List.nil_append]
 | t,0,_,_,_,hn=>by omega
theorem r_cuts (t:T) (n:Nat) (o:okT t) (hh:ht t≤500) (hd:nd t≤1000) (hn:ht t+1≤n):PP.run Gs gls (n+2) 16 [encT t] = some (.int 0):=by
 have w:=r_within t n o hh hd hn
 have w2:PP.run Gs gls (n+1) 15 [encT t] = some (.lst []):=by
  apply wRun_out
  refine wRun_def d_cuts_within rfl rfl rfl ?_;simp only [d_cuts_within,init,SI,Nat.reduceAdd,Nat.reduceSub]
  simp only [↓wRun_eq w,↓WS,ite_true,ite_false,Bool.false_eq_true,decide_eq_true_eq,↓reduceIte]
  refine wComp_map encT (fun _=>false) (fun _=>.non) (subs t) (fun u hu=>?_) ?_
  · cases u with
    | close =>
      simp only [encT,SI,↓WS,ite_true,ite_false,Bool.false_eq_true,decide_eq_true_eq,↓reduceIte]
      rw [show (("close":Str) == "cut") = false by decide +kernel]
      exact ⟨rfl,rfl⟩
    | rule b x y t1 t2 =>
      simp only [encT,SI,↓WS,ite_true,ite_false,Bool.false_eq_true,decide_eq_true_eq,↓reduceIte]
      rw [show (("rule":Str) == "cut") = false by decide +kernel]
      exact ⟨rfl,rfl⟩
  · rw [List.filter_eq_nil_iff.mpr fun _ _=>Bool.false_ne_true]
    exact ⟨Nat.zero_le _,rfl⟩
 apply wRun_out
 refine wRun_def d_cuts rfl rfl rfl ?_;simp only [d_cuts,init,SI,Nat.reduceAdd,Nat.reduceSub]
 simp only [↓wRun_eq w2,List.length_nil,↓WS,ite_true,ite_false,Bool.false_eq_true,decide_eq_true_eq,↓reduceIte]
 rfl
end P1
end
section
namespace P1
open PySem L2 PP
def shr (ones others:List It):List F:=(ones.filter fun p=>p.1 && has others (false,p.2)).map (·.2)
def CL:D:=.tup [.str "close"]
def rl (L:Bool) (I:F) (ks:List D):D:=.tup [.str "rule",.str (sd L),enc I,.str "",.tup ks]
def rb (b:B) (x y:F) (ks:List D):D:=.tup [.str "rule",.str (sd (sB b)),enc (.bi b x y),.str "",.tup ks]
structure R where
 I:F
 f:D
 s:D
def R.d (r:R):D:=.tup [enc r.I,r.f,r.s]
def pcl (ones others:List It):R :=
 if cl ones = true then ⟨.no,CL,CL⟩ else if cl others = true then ⟨.yes,CL,CL⟩ else
  match shr ones others with
  | A::_=>⟨A,CL,CL⟩
  | []=>match shr others ones with
    | A::_=>⟨.neg A,rl false (.neg A) [CL],rl true (.neg A) [CL]⟩
    | []=>⟨.no,CL,CL⟩
def prt:List It→List It→T→R
 | ones,others,.close=>pcl ones others
 | ones,others,.rule b x y t1 t2 =>
   if has ones (sB b,.bi b x y) = true then
    let r1:=prt (mo (ones++[p1 b x])) others t1
    let r2:=prt (mo (ones++[p2 b y])) others t2
    ⟨.bi .or r1.I r2.I,rl false (.bi .or r1.I r2.I) [rb b x y [r1.f,r2.f]],rl true (.bi .or r1.I r2.I) [r1.s,r2.s]⟩
   else
    let r1:=prt ones (mo (others++[p1 b x])) t1
    let r2:=prt ones (mo (others++[p2 b y])) t2
    ⟨.bi .and r1.I r2.I,rl false (.bi .and r1.I r2.I) [r1.f,r2.f],rl true (.bi .and r1.I r2.I) [rb b x y [r1.s,r2.s]]⟩
theorem shr_mem {ones others:List It} (h:low others) {A:F}:A∈shr ones others↔(true,A)∈ones∧(false,A)∈others:=by
 unfold shr
 rw [List.mem_map]
 constructor
 · rintro ⟨⟨b,B⟩,hp,rfl⟩
   rw [List.mem_filter,Bool.and_eq_true,has_iff h] at hp
   obtain ⟨h1,h2,h3⟩:=hp
   have e:b = true:=h2
   rw [e] at h1
   exact ⟨h1,h3⟩
 · rintro ⟨h1,h2⟩
   exact ⟨_,List.mem_filter.mpr ⟨h1,by rw [Bool.and_eq_true,has_iff h];exact ⟨rfl,h2⟩⟩,rfl⟩
theorem r_shared (n:Nat) (ones others:List It) (h1:low ones) (h2:low others) (hl:ones.length≤1000):PP.run Gs gls (n+1) 18 [.tup (ones.map itD),.tup (others.map itD)] = some (.lst ((shr ones others).map enc)):=by
 have ss:=s64
 apply wRun_out
 refine wRun_def d_shared_with rfl rfl rfl ?_;simp only [d_shared_with,init,SI,Nat.reduceAdd,Nat.reduceSub]
 simp only [↓WS,ite_true,ite_false,Bool.false_eq_true,decide_eq_true_eq,↓reduceIte]
 refine wComp_map itD (fun p=>p.1 && has others (false,p.2)) (fun p=>enc p.2) ones (fun p hp=>?_) ⟨?_,?_⟩
 · obtain ⟨b,A⟩:=p
   show wTg [Sl.val (D.tup (ones.map itD)),.val (D.tup (others.map itD)),.no,.no] (Tg.tp [2,3]) (D.tup [D.str (sd b),enc A]) _
   simp only [↓wTg_tp2,sd_l,SI,↓WS,ite_true,ite_false,Bool.false_eq_true,decide_eq_true_eq,↓reduceIte]
   cases b with
   | false=>exact ⟨rfl,rfl⟩
   | true =>
     refine ⟨by decide,in_ok (q:=(false,A)) h2 (h1 (true,A) hp),rfl,?_⟩
     exact iteI (fun z=>⟨trivial,rfl⟩) fun z=>rfl
 · have:=List.length_filter_le (fun p:It=>p.1 && has others (false,p.2)) ones
   rw [List.length_map];omega
 · unfold shr
   rw [List.map_map]
   rfl
theorem pcl_case {ones others:List It} (h1:low ones) (h2:low others) (k:clo fun p=>p∈ones∨p∈others) (c1:cl ones = false) (c2:cl others = false) (c3:shr ones others = []):∃ A r,shr others ones = A::r:=by
 have n1:¬ clo (·∈ones):=fun z=>by rw [(cl_iff h1).mpr z] at c1;cases c1
 have n2:¬ clo (·∈others):=fun z=>by rw [(cl_iff h2).mpr z] at c2;cases c2
 have n3:∀ A,¬ ((true,A)∈ones∧(false,A)∈others):=fun A z=>by
  have:=(shr_mem h2).mpr z
  rw [c3] at this
  cases this
 cases e:shr others ones with
 | cons A r=>exact ⟨A,r,rfl⟩
 | nil =>
   exfalso
   have n4:∀ A,¬ ((true,A)∈others∧(false,A)∈ones):=fun A z=>by
    have:=(shr_mem h1).mpr z
    rw [e] at this
    cases this
   rcases k with (k | k) | (k | k) | ⟨A,k1 | k1,k2 | k2⟩
   · exact n1 (.inl k)
   · exact n2 (.inl k)
   · exact n1 (.inr (.inl k))
   · exact n2 (.inr (.inl k))
   · exact n1 (.inr (.inr ⟨A,k1,k2⟩))
   · exact n3 A ⟨k1,k2⟩
   · exact n4 A ⟨k1,k2⟩
   · exact n2 (.inr (.inr ⟨A,k1,k2⟩))
theorem r_pclose (n:Nat) (ones others:List It) (h1:low ones) (h2:low others) (l1:ones.length≤1000) (l2:others.length≤1000) (k:clo fun p=>p∈ones∨p∈others):PP.run Gs gls (n+2) 19 [.tup (ones.map itD),.tup (others.map itD)] = some (pcl ones others).d:=by
 have w1:=r_closes n ones h1 l1
 have w2:=r_closes n others h2 l2
 have w3:=r_shared n ones others h1 h2 l1
 have w4:=r_shared n others ones h2 h1 l2
 apply wRun_out
 refine wRun_def d_parted_close rfl rfl rfl ?_;simp only [d_parted_close,init,SI,Nat.reduceAdd,Nat.reduceSub]
 unfold pcl
 cases c1:cl ones with
 | true =>
   rw [c1] at w1
   simp only [List.length_cons,List.length_nil,↓wRun_eq w1,↓wE_g4,↓WS,ite_true,ite_false,Bool.false_eq_true,decide_eq_true_eq,↓reduceIte]
   exact ⟨by decide,by decide,rfl⟩
 | false =>
   rw [c1] at w1
   cases c2:cl others with
   | true =>
     rw [c2] at w2
     simp only [List.length_cons,List.length_nil,↓wRun_eq w1,↓wRun_eq w2,↓wE_g4,↓WS,ite_true,ite_false,Bool.false_eq_true,decide_eq_true_eq,↓reduceIte]
     exact ⟨by decide,by decide,rfl⟩
   | false =>
     rw [c2] at w2
     rw [if_neg Bool.false_ne_true,if_neg Bool.false_ne_true]
     cases c3:shr ones others with
     | cons A r =>
       rw [c3] at w3
       simp only [List.length_cons,List.length_nil,List.map_cons,↓wRun_eq w1,↓wRun_eq w2,↓wRun_eq w3,↓wE_g4,↓wIx_lst0,↓WS,ite_true,ite_false,Bool.false_eq_true,decide_eq_true_eq,↓reduceIte]
       rw [if_pos (show (!(enc A::r.map enc).isEmpty) = true from rfl)]
       exact ⟨_,atI_nat (j:=0) rfl,by decide,rfl⟩
     | nil =>
       obtain ⟨A,r,c4⟩:=pcl_case h1 h2 k c1 c2 c3
       rw [c3] at w3
       rw [c4] at w4 ⊢
       have w5:PP.run Gs gls (n+1) 17 [.tup [.str "not",enc A],.str "",.lst [CL],.lst [CL]] = some (R.d ⟨.neg A,rl false (.neg A) [CL],rl true (.neg A) [CL]⟩):=by kernel_rfl
       simp only [List.length_cons,List.length_nil,List.map_cons,List.map_nil,↓wRun_eq w1,↓wRun_eq w2,↓wRun_eq w3,↓wRun_eq w4,↓wE_g4,↓wIx_lst0,↓WS,ite_true,ite_false,Bool.false_eq_true,decide_eq_true_eq,↓reduceIte]
       rw [if_neg (by simp)]
       exact ⟨_,atI_nat (j:=0) rfl,by decide,by decide,by decide,(wRun_eq w5).mpr rfl⟩
theorem shr_cons (p:It) (ps qs:List It):shr (p::ps) qs = if (p.1 && has qs (false,p.2)) = true then p.2::shr ps qs else shr ps qs:=by
 unfold shr
 rw [List.filter_cons]
 split<;>rfl
theorem r_ldue0 (n:Nat) (ones others:List It) (h1:low ones) (h2:low others) (k:clo fun p=>p∈ones∨p∈others):PP.run Gs gls (n+2) 39 [.tup (ones.map itD),.tup (others.map itD)] = some (pcl ones others).d:=by
 have w1:=r_lcloses n ones h1
 have w2:=r_lcloses n others h2
 apply wRun_out
 refine wRun_def d__law_close_due rfl rfl rfl ?_;simp only [d__law_close_due,init,SI,Nat.reduceAdd,Nat.reduceSub]
 unfold pcl
 cases c1:cl ones with
 | true =>
   rw [c1] at w1
   simp only [List.length_cons,List.length_nil,↓wRun_eq w1,↓WS,ite_true,ite_false,Bool.false_eq_true,decide_eq_true_eq,↓reduceIte]
   exact ⟨by decide,by decide,by decide,by decide,rfl⟩
 | false =>
   rw [c1] at w1
   cases c2:cl others with
   | true =>
     rw [c2] at w2
     simp only [List.length_cons,List.length_nil,↓wRun_eq w1,↓wRun_eq w2,↓WS,ite_true,ite_false,Bool.false_eq_true,decide_eq_true_eq,↓reduceIte]
     exact ⟨by decide,by decide,by decide,by decide,rfl⟩
   | false =>
     rw [c2] at w2
     rw [if_neg Bool.false_ne_true,if_neg Bool.false_ne_true]
     simp only [↓wRun_eq w1,↓wRun_eq w2,↓WS,ite_true,ite_false,Bool.false_eq_true,decide_eq_true_eq,↓reduceIte]
     refine wFor_map (g:=itD) (fun rest δ=>∃ s2 s3:Sl,δ = [.val (.tup (ones.map itD)),.val (.tup (others.map itD)),s2,s3,.no,.no]∧(∀ p∈rest,p∈ones)∧shr rest others = shr ones others) ?_ ?_ _ _ ⟨_,_,rfl,fun p hp=>hp,rfl⟩
     · rintro ⟨b,A⟩ rest δ ⟨s2,s3,rfl,hm,e⟩
       have hA:sz A≤61:=h1 (b,A) (hm _ List.mem_cons_self)
       rw [shr_cons] at e
       have nx:(b && has others (false,A)) = false→∃ s2 s3:Sl,([.val (.tup (ones.map itD)),.val (.tup (others.map itD)),.val (.str (sd b)),.val (enc A),.no,.no]:PP.Loc) = [.val (.tup (ones.map itD)),.val (.tup (others.map itD)),s2,s3,.no,.no]∧(∀ p∈rest,p∈ones)∧shr rest others = shr ones others:=fun z=>⟨_,_,rfl,fun p hp=>hm p (List.mem_cons_of_mem _ hp),by rw [if_neg (by rw [z];exact Bool.false_ne_true)] at e;exact e⟩
       unfold itD
       cases b with
       | false =>
         simp only [List.length_cons,List.length_nil,sd_l,↓WS,ite_true,ite_false,Bool.false_eq_true,decide_eq_true_eq,↓reduceIte]
         exact nx rfl
       | true =>
         simp only [List.length_cons,List.length_nil,sd_l,↓WS,ite_true,ite_false,Bool.false_eq_true,decide_eq_true_eq,↓reduceIte]
         refine ⟨by decide,in_ok (q:=(false,A)) h2 hA,iteI (fun z=>⟨by decide,by decide,by decide,?_⟩) fun z=>nx (Bool.eq_false_iff.mpr z)⟩
         rw [if_pos (show (true && has others (false,A)) = true from z)] at e
         rw [← e]
         rfl
     · rintro δ ⟨s2,s3,rfl,_,e⟩
       have c3:shr ones others = []:=e.symm
       obtain ⟨A0,r,c4⟩:=pcl_case h1 h2 k c1 c2 c3
       rw [c3]
       simp only [↓WS,ite_true,ite_false,Bool.false_eq_true,decide_eq_true_eq,↓reduceIte]
       refine wFor_map (g:=itD) (fun rest δ=>∃ s2 s3:Sl,δ = [.val (.tup (ones.map itD)),.val (.tup (others.map itD)),s2,s3,.no,.no]∧(∀ p∈rest,p∈others)∧shr rest ones = shr others ones) ?_ ?_ _ _ ⟨_,_,rfl,fun p hp=>hp,rfl⟩
       · rintro ⟨b,A⟩ rest δ ⟨s2,s3,rfl,hm,e⟩
         have hA:sz A≤61:=h2 (b,A) (hm _ List.mem_cons_self)
         rw [shr_cons] at e
         have nx:(b && has ones (false,A)) = false→∃ s2 s3:Sl,([.val (.tup (ones.map itD)),.val (.tup (others.map itD)),.val (.str (sd b)),.val (enc A),.no,.no]:PP.Loc) = [.val (.tup (ones.map itD)),.val (.tup (others.map itD)),s2,s3,.no,.no]∧(∀ p∈rest,p∈others)∧shr rest ones = shr others ones:=fun z=>⟨_,_,rfl,fun p hp=>hm p (List.mem_cons_of_mem _ hp),by rw [if_neg (by rw [z];exact Bool.false_ne_true)] at e;exact e⟩
         unfold itD
         cases b with
         | false =>
           simp only [List.length_cons,List.length_nil,sd_l,↓WS,ite_true,ite_false,Bool.false_eq_true,decide_eq_true_eq,↓reduceIte]
           exact nx rfl
         | true =>
           simp only [List.length_cons,List.length_nil,sd_l,↓WS,ite_true,ite_false,Bool.false_eq_true,decide_eq_true_eq,↓reduceIte]
           refine ⟨by decide,in_ok (q:=(false,A)) h1 hA,iteI (fun z=>?_) fun z=>nx (Bool.eq_false_iff.mpr z)⟩
           rw [if_pos (show (true && has ones (false,A)) = true from z)] at e
           rw [← e]
           exact ⟨by decide,by decide,by decide,by decide,by decide,by decide,by decide,by decide,rfl⟩
       · rintro δ ⟨s2,s3,rfl,_,e⟩
         exfalso
         rw [c4] at e
         cases e
theorem r_rules (n:Nat) (I:F) (ks ls:List D):PP.run Gs gls (n+1) 17 [enc I,.str "",.lst ks,.lst ls] = some (R.d ⟨I,rl false I ks,rl true I ls⟩):=by kernel_rfl
theorem r_withk (n:Nat) (b:B) (x y:F) (t1 t2:T) (o:okT (.rule b x y t1 t2)) (hh:ht (.rule b x y t1 t2)≤1000) (ks:List D):PP.run Gs gls (n+1) 9 [encT (.rule b x y t1 t2),.lst ks] = some (rb b x y ks):=by
 apply wRun_out
 refine wRun_def d_with_kids rfl rfl rfl ?_;simp only [d_with_kids,init,SI,Nat.reduceAdd,Nat.reduceSub]
 simp only [↓wE_g4,↓WS,ite_true,ite_false,Bool.false_eq_true,decide_eq_true_eq,↓reduceIte]
 refine isC o hh ?_
 simp only [encT,↓WS,ite_true,ite_false,Bool.false_eq_true,decide_eq_true_eq,↓reduceIte]
 refine ⟨.tup [.str "rule",.str (sd (sB b)),enc (.bi b x y),.str ""],by kernel_rfl,(show 1≤sizeLine by decide),?_⟩
 exact wOp_addT.mpr ⟨(show 5≤sizeLine by decide),rfl⟩
theorem r_two (n:Nat) (b:B) (x y:F) (t1 t2:T) (o:okT (.rule b x y t1 t2)) (hh:ht (.rule b x y t1 t2)≤1000) (r1 r2:R) (k:Bool):PP.run Gs gls (n+2) 20 [encT (.rule b x y t1 t2),.bl k,.lst [r1.d,r2.d]] = some (R.d (if k = true then ⟨.bi .or r1.I r2.I,rl false (.bi .or r1.I r2.I) [rb b x y [r1.f,r2.f]],rl true (.bi .or r1.I r2.I) [r1.s,r2.s]⟩ else ⟨.bi .and r1.I r2.I,rl false (.bi .and r1.I r2.I) [r1.f,r2.f],rl true (.bi .and r1.I r2.I) [rb b x y [r1.s,r2.s]]⟩)):=by
 have w1:=r_withk n b x y t1 t2 o hh [r1.f,r2.f]
 have w2:=r_withk n b x y t1 t2 o hh [r1.s,r2.s]
 have w3:=r_rules n (.bi .or r1.I r2.I) [rb b x y [r1.f,r2.f]] [r1.s,r2.s]
 have w4:=r_rules n (.bi .and r1.I r2.I) [r1.f,r2.f] [rb b x y [r1.s,r2.s]]
 rw [show enc (.bi .or r1.I r2.I) = .tup [.str "or",enc r1.I,enc r2.I] from rfl] at w3
 rw [show enc (.bi .and r1.I r2.I) = .tup [.str "and",enc r1.I,enc r2.I] from rfl] at w4
 apply wRun_out
 refine wRun_def d_of_two_kids rfl rfl rfl ?_;simp only [d_of_two_kids,init,SI,Nat.reduceAdd,Nat.reduceSub]
 refine wSs_run 3 [.val (encT (.rule b x y t1 t2)),.val (.bl k),.val (.lst [r1.d,r2.d]),.val (.tup [enc r1.I,enc r2.I]),.val (.lst [r1.f,r2.f]),.val (.lst [r1.s,r2.s])] (by kernel_rfl) ?_
 cases k with
 | true =>
   simp only [dropS,List.length_cons,List.length_nil,↓wRun_eq w1,↓WS,ite_true,ite_false,Bool.false_eq_true,decide_eq_true_eq,↓reduceIte]
   exact ⟨by decide,by decide,by decide,(wRun_eq w3).mpr rfl⟩
 | false =>
   simp only [dropS,List.length_cons,List.length_nil,↓wRun_eq w2,↓WS,ite_true,ite_false,Bool.false_eq_true,decide_eq_true_eq,↓reduceIte]
   exact ⟨by decide,by decide,by decide,(wRun_eq w4).mpr rfl⟩
def un (ones others:List It) (p:It):Prop:=p∈ones∨p∈others
theorem un_l {ones others:List It} {t:T} {q:It} (k:prf (fun p=>un ones others p∨p = q) t):prf (un (mo (ones++[q])) others) t:=prf_mono (fun p z=>by
 rcases z with (z | z) | z
 · exact .inl (mo_mem.mpr (List.mem_append_left _ z))
 · exact .inr z
 · exact .inl (mo_mem.mpr (List.mem_append_right _ (List.mem_singleton.mpr z)))) k
theorem un_r {ones others:List It} {t:T} {q:It} (k:prf (fun p=>un ones others p∨p = q) t):prf (un ones (mo (others++[q]))) t:=prf_mono (fun p z=>by
 rcases z with (z | z) | z
 · exact .inl z
 · exact .inr (mo_mem.mpr (List.mem_append_left _ z))
 · exact .inr (mo_mem.mpr (List.mem_append_right _ (List.mem_singleton.mpr z)))) k
theorem r_ptree:∀ (t:T) (ones others:List It) (n:Nat),low ones→low others→okT t→ht t+8≤n→ones.length+ht t≤63→others.length+ht t≤63→prf (un ones others) t→PP.run Gs gls n 21 [.tup (ones.map itD),.tup (others.map itD),encT t] = some (prt ones others t).d
 | .close,ones,others,n+1,h1,h2,o,hn,l1,l2,k=>by
   simp only [ht] at hn l1 l2
   obtain ⟨m,rfl⟩:∃ m,n = m+2:=⟨n - 2,by omega⟩
   have w:=r_pclose m ones others h1 h2 (by omega) (by omega) k
   apply wRun_out
   refine wRun_def d_parted_tree rfl rfl rfl ?_;simp only [d_parted_tree,init,SI,Nat.reduceAdd,Nat.reduceSub]
   refine wSs_cons.mpr (ifs_yes ?_ ?_)
   · simp only [↓wE_g4,↓WS,ite_true,ite_false,Bool.false_eq_true,decide_eq_true_eq,↓reduceIte]
     exact isC o (by decide) (by simp)
   · simp only [↓wRun_eq w,↓WS,ite_true,ite_false,Bool.false_eq_true,decide_eq_true_eq,↓reduceIte]
     rfl
 | .rule b x y t1 t2,ones,others,n+1,h1,h2,o,hn,l1,l2,k=>by
   simp only [ht] at hn l1 l2
   obtain ⟨m,rfl⟩:∃ m,n = m+4:=⟨n - 4,by omega⟩
   obtain ⟨ox,oy⟩:=szL o.1
   have w1:=r_parts m b x y
   have m1:=r_more (m+2) ones [p1 b x] _ (.inl rfl) (h1.app (.one ox)) (by simp only [List.length_cons,List.length_nil];omega)
   have m2:=r_more (m+2) ones [p2 b y] _ (.inl rfl) (h1.app (.one oy)) (by simp only [List.length_cons,List.length_nil];omega)
   have m3:=r_more (m+2) others [p1 b x] _ (.inl rfl) (h2.app (.one ox)) (by simp only [List.length_cons,List.length_nil];omega)
   have m4:=r_more (m+2) others [p2 b y] _ (.inl rfl) (h2.app (.one oy)) (by simp only [List.length_cons,List.length_nil];omega)
   have g1:=r_ptree t1 (mo (ones++[p1 b x])) others (m+4) (mo_low (h1.app (.one ox))) h2 o.2.1 (by omega) (lapp (by omega)) (by omega) (un_l k.2.1)
   have g2:=r_ptree t2 (mo (ones++[p2 b y])) others (m+4) (mo_low (h1.app (.one oy))) h2 o.2.2 (by omega) (lapp (by omega)) (by omega) (un_l k.2.2)
   have g3:=r_ptree t1 ones (mo (others++[p1 b x])) (m+4) h1 (mo_low (h2.app (.one ox))) o.2.1 (by omega) (by omega) (lapp (by omega)) (un_r k.2.1)
   have g4:=r_ptree t2 ones (mo (others++[p2 b y])) (m+4) h1 (mo_low (h2.app (.one oy))) o.2.2 (by omega) (by omega) (lapp (by omega)) (un_r k.2.2)
   apply wRun_out
   refine wRun_def d_parted_tree rfl rfl rfl ?_;simp only [d_parted_tree,init,SI,Nat.reduceAdd,Nat.reduceSub]
   refine wSs_cons.mpr (ifs_no ?_ (wSs_nil.mpr (thenS_nx.mpr ?_)))
   · simp only [↓wE_g4,↓WS,ite_true,ite_false,Bool.false_eq_true,decide_eq_true_eq,↓reduceIte]
     exact isC o (by simp only [ht];omega) (by simp)
   refine wSs_run 1 [.val (.tup (ones.map itD)),.val (.tup (others.map itD)),.val (encT (.rule b x y t1 t2)),.val (.str (sd (sB b))),.val (enc (.bi b x y)),.val (.str ""),.val (.tup [encT t1,encT t2]),.no,.no,.no,.no] (by kernel_rfl) ?_
   simp only [dropS,List.length_cons,List.length_nil,↓wRun_eq w1,↓wS_forZ,↓WS,ite_true,ite_false,Bool.false_eq_true,decide_eq_true_eq,↓reduceIte]
   refine ⟨by decide,in_ok (q:=(sB b,.bi b x y)) h1 o.1,Nat.zero_le _,_,_,_,_,rfl,rfl,rfl,?_⟩
   show wFor _ _ _ [D.tup [.lst [itD (p1 b x)],encT t1],D.tup [.lst [itD (p2 b y)],encT t2]] [.val (.tup (ones.map itD)),.val (.tup (others.map itD)),.val (encT (.rule b x y t1 t2)),.val (.str (sd (sB b))),.val (enc (.bi b x y)),.val (.str ""),.val (.tup [encT t1,encT t2]),.val (.bl (has ones (sB b,.bi b x y))),.own [],.no,.no] _
   simp only [List.map_cons,List.map_nil] at m1 m2 m3 m4
   unfold prt
   cases z:has ones (sB b,.bi b x y) with
   | true =>
     have w2:=r_two (m+2) b x y t1 t2 o (by simp only [ht];omega) (prt (mo (ones++[p1 b x])) others t1) (prt (mo (ones++[p2 b y])) others t2) true
     simp only [List.length_cons,List.length_nil,List.nil_append,List.cons_append,↓wFor_cons,↓wFor_nil,↓wRun_eq m1,↓wRun_eq m2,↓wRun_eq g1,↓wRun_eq g2,↓wRun_eq w2,↓WS,ite_true,ite_false,Bool.false_eq_true,decide_eq_true_eq,↓reduceIte]
     exact ⟨by decide,by decide,by rw [if_pos (by decide)];trivial⟩
   | false =>
     have w2:=r_two (m+2) b x y t1 t2 o (by simp only [ht];omega) (prt ones (mo (others++[p1 b x])) t1) (prt ones (mo (others++[p2 b y])) t2) false
     simp only [List.length_cons,List.length_nil,List.nil_append,List.cons_append,↓wFor_cons,↓wFor_nil,↓wRun_eq m3,↓wRun_eq m4,↓wRun_eq g3,↓wRun_eq g4,↓wRun_eq w2,↓WS,ite_true,ite_false,Bool.false_eq_true,decide_eq_true_eq,↓reduceIte]
     exact ⟨by decide,by decide,by rw [if_pos (by decide)];trivial⟩
 | t,_,_,0,_,_,_,hn,_,_,_=>by omega
end P1
end
section
namespace P1
open PySem L2 PP
theorem r_parted (t:T) (ones others:List It) (h1:low ones) (h2:low others) (o:okT t) (hh:ht t≤30) (hd:nd t≤1000) (l1:ones.length≤30) (l2:others.length≤30) (ll:(mo (ones++others)).length≤30) (k:prf (un ones others) t):PP.run Gs gls 199 22 [.tup (ones.map itD),.tup (others.map itD),encT t] = some (prt ones others t).d:=by
 have w1:=r_more 196 ones others _ (.inr rfl) (h1.app h2) (by omega)
 have w2:=r_fits t (mo (ones++others)) 198 (mo_low (h1.app h2)) o (by omega) (by omega) (prf_mono (fun p z=>mo_mem.mpr (List.mem_append.mpr z)) k)
 have w3:=r_cuts t 196 o (by omega) hd (by omega)
 have w4:=r_ptree t ones others 198 h1 h2 o (by omega) (by omega) (by omega) k
 apply wRun_out
 refine wRun_def d_parted rfl rfl rfl ?_;simp only [d_parted,init,SI,Nat.reduceAdd,Nat.reduceSub]
 simp only [↓wRun_eq w1,↓wRun_eq w2,↓wRun_eq w3,↓wRun_eq w4,Bool.not_true,↓WS,ite_true,ite_false,Bool.false_eq_true,decide_eq_true_eq,↓reduceIte]
 rw [if_neg (by decide)]
 trivial
theorem due_tail (cx:Cl) (b:B) (x y:F) (t1 t2:T) (D0 D1:D) (s5 s6:Sl) (r1 r2:R) (k:Bool):wSs cx (dropS 4 d__law_due.body) [.val D0,.val D1,.val (encT (.rule b x y t1 t2)),.val (.bl k),.own [r1.d,r2.d],s5,s6,.no,.no,.no] (retS fun d=>d = R.d (if k = true then ⟨.bi .or r1.I r2.I,rl false (.bi .or r1.I r2.I) [rb b x y [r1.f,r2.f]],rl true (.bi .or r1.I r2.I) [r1.s,r2.s]⟩ else ⟨.bi .and r1.I r2.I,rl false (.bi .and r1.I r2.I) [r1.f,r2.f],rl true (.bi .and r1.I r2.I) [rb b x y [r1.s,r2.s]]⟩)):=by
 cases k with
 | true=>exact ⟨.rt (R.d ⟨.bi .or r1.I r2.I,rl false (.bi .or r1.I r2.I) [rb b x y [r1.f,r2.f]],rl true (.bi .or r1.I r2.I) [r1.s,r2.s]⟩) [.val D0,.val D1,.val (encT (.rule b x y t1 t2)),.val (.bl true),.own [r1.d,r2.d],s5,s6,.val (enc (.bi .or r1.I r2.I)),.val (.tup [rb b x y [r1.f,r2.f]]),.val (.tup [r1.s,r2.s])],by kernel_rfl,rfl⟩
 | false=>exact ⟨.rt (R.d ⟨.bi .and r1.I r2.I,rl false (.bi .and r1.I r2.I) [r1.f,r2.f],rl true (.bi .and r1.I r2.I) [rb b x y [r1.s,r2.s]]⟩) [.val D0,.val D1,.val (encT (.rule b x y t1 t2)),.val (.bl false),.own [r1.d,r2.d],s5,s6,.val (enc (.bi .and r1.I r2.I)),.val (.tup [r1.f,r2.f]),.val (.tup [rb b x y [r1.s,r2.s]])],by kernel_rfl,rfl⟩
theorem r_due:∀ (t:T) (ones others:List It) (n:Nat),low ones→low others→okT t→ht t+8≤n→ones.length+ht t≤63→others.length+ht t≤63→prf (un ones others) t→PP.run Gs gls n 40 [.tup (ones.map itD),.tup (others.map itD),encT t] = some (prt ones others t).d
 | .close,ones,others,n+1,h1,h2,o,hn,l1,l2,k=>by
   simp only [ht] at hn l1 l2
   obtain ⟨m,rfl⟩:∃ m,n = m+2:=⟨n - 2,by omega⟩
   have w:=r_ldue0 m ones others h1 h2 k
   apply wRun_out
   refine wRun_def d__law_due rfl rfl rfl ?_;simp only [d__law_due,init,SI,Nat.reduceAdd,Nat.reduceSub]
   refine wSs_cons.mpr (ifs_yes ?_ ?_)
   · simp only [List.length_cons,List.length_nil,↓WS,ite_true,ite_false,Bool.false_eq_true,decide_eq_true_eq,↓reduceIte]
     exact ⟨by decide,isC o (by decide) (by simp)⟩
   · simp only [↓wRun_eq w,↓WS,ite_true,ite_false,Bool.false_eq_true,decide_eq_true_eq,↓reduceIte]
     rfl
 | .rule b x y t1 t2,ones,others,n+1,h1,h2,o,hn,l1,l2,k=>by
   simp only [ht] at hn l1 l2
   obtain ⟨m,rfl⟩:∃ m,n = m+4:=⟨n - 4,by omega⟩
   obtain ⟨ox,oy⟩:=szL o.1
   have w1:=r_branches m b x y
   have m1:=r_lmore (m+2) ones [p1 b x] _ _ (.inr rfl) rfl (h1.app (.one ox)) (by simp only [List.length_cons,List.length_nil];omega)
   have m2:=r_lmore (m+2) ones [p2 b y] _ _ (.inr rfl) rfl (h1.app (.one oy)) (by simp only [List.length_cons,List.length_nil];omega)
   have m3:=r_lmore (m+2) others [p1 b x] _ _ (.inr rfl) rfl (h2.app (.one ox)) (by simp only [List.length_cons,List.length_nil];omega)
   have m4:=r_lmore (m+2) others [p2 b y] _ _ (.inr rfl) rfl (h2.app (.one oy)) (by simp only [List.length_cons,List.length_nil];omega)
   have g1:=r_due t1 (mo (ones++[p1 b x])) others (m+4) (mo_low (h1.app (.one ox))) h2 o.2.1 (by omega) (lapp (by omega)) (by omega) (un_l k.2.1)
   have g2:=r_due t2 (mo (ones++[p2 b y])) others (m+4) (mo_low (h1.app (.one oy))) h2 o.2.2 (by omega) (lapp (by omega)) (by omega) (un_l k.2.2)
   have g3:=r_due t1 ones (mo (others++[p1 b x])) (m+4) h1 (mo_low (h2.app (.one ox))) o.2.1 (by omega) (by omega) (lapp (by omega)) (un_r k.2.1)
   have g4:=r_due t2 ones (mo (others++[p2 b y])) (m+4) h1 (mo_low (h2.app (.one oy))) o.2.2 (by omega) (by omega) (lapp (by omega)) (un_r k.2.2)
   simp only [List.map_cons,List.map_nil] at m1 m2 m3 m4
   apply wRun_out
   refine wRun_def d__law_due rfl rfl rfl ?_;simp only [d__law_due,init,SI,Nat.reduceAdd,Nat.reduceSub]
   refine wSs_cons.mpr (ifs_no ?_ (wSs_nil.mpr (thenS_nx.mpr ?_)))
   · simp only [List.length_cons,List.length_nil,↓WS,ite_true,ite_false,Bool.false_eq_true,decide_eq_true_eq,↓reduceIte]
     exact ⟨by decide,isC o (by simp only [ht];omega) (by simp)⟩
   refine wSs_cons.mpr ?_
   have ev:∀ Q:D→PP.Loc→Prop,Q (.bl (has ones (sB b,.bi b x y))) [.val (.tup (ones.map itD)),.val (.tup (others.map itD)),.val (encT (.rule b x y t1 t2)),.no,.no,.no,.no,.no,.no,.no]→wE ⟨PP.run Gs gls (m+4),gls,hfs Gs⟩ (.cmp .isin (.tup (.cons (.ix (.var 2) (.int 1)) (.cons (.ix (.var 2) (.int 2)) .nil))) (.var 0)) [.val (.tup (ones.map itD)),.val (.tup (others.map itD)),.val (encT (.rule b x y t1 t2)),.no,.no,.no,.no,.no,.no,.no] Q:=fun Q q=>by
    unfold encT at q ⊢
    simp only [List.length_cons,List.length_nil,↓WS,ite_true,ite_false,Bool.false_eq_true,decide_eq_true_eq,↓reduceIte]
    exact ⟨by decide,in_ok (q:=(sB b,.bi b x y)) h1 o.1,q⟩
   refine wS_asg.mpr (ev _ ?_)
   simp only [↓WS,ite_true,ite_false,Bool.false_eq_true,decide_eq_true_eq,↓reduceIte]
   refine ⟨by decide,?_⟩
   change wS _ _ _ (thenS ⟨PP.run Gs gls (m+4),gls,hfs Gs⟩ (dropS 4 d__law_due.body) (retS fun d=>d = (prt ones others (.rule b x y t1 t2)).d))
   cases z:has ones (sB b,.bi b x y) with
   | true =>
     have tail:=thenS_nx.mpr (due_tail ⟨PP.run Gs gls (m+4),gls,hfs Gs⟩ b x y t1 t2 (.tup (ones.map itD)) (.tup (others.map itD)) (.val (.lst [itD (p2 b y)])) (.val (encT t2)) (prt (mo (ones++[p1 b x])) others t1) (prt (mo (ones++[p2 b y])) others t2) true)
     rw [show (prt ones others (.rule b x y t1 t2)) = _ by rw [prt,if_pos z]]
     rw [if_pos rfl] at tail
     generalize thenS ⟨PP.run Gs gls (m+4),gls,hfs Gs⟩ (dropS 4 d__law_due.body) _ = Q at tail ⊢
     refine wS_forZ.mpr ?_
     simp only [encT,↓wRun_eq w1,↓WS,ite_true,ite_false,Bool.false_eq_true,decide_eq_true_eq,↓reduceIte]
     refine ⟨_,rfl,_,_,_,_,rfl,rfl,rfl,?_⟩
     show wFor _ _ _ [D.tup [.lst [itD (p1 b x)],encT t1],D.tup [.lst [itD (p2 b y)],encT t2]] _ _
     simp only [List.length_cons,List.length_nil,List.nil_append,List.cons_append,↓wFor_cons,↓wFor_nil,↓wRun_eq m1,↓wRun_eq m2,↓wRun_eq g1,↓wRun_eq g2,↓WS,ite_true,ite_false,Bool.false_eq_true,decide_eq_true_eq,↓reduceIte]
     exact ⟨by decide,by decide,tail⟩
   | false =>
     have tail:=thenS_nx.mpr (due_tail ⟨PP.run Gs gls (m+4),gls,hfs Gs⟩ b x y t1 t2 (.tup (ones.map itD)) (.tup (others.map itD)) (.val (.lst [itD (p2 b y)])) (.val (encT t2)) (prt ones (mo (others++[p1 b x])) t1) (prt ones (mo (others++[p2 b y])) t2) false)
     rw [show (prt ones others (.rule b x y t1 t2)) = _ by rw [prt,if_neg (by rw [z];exact Bool.false_ne_true)]]
     rw [if_neg Bool.false_ne_true] at tail
     generalize thenS ⟨PP.run Gs gls (m+4),gls,hfs Gs⟩ (dropS 4 d__law_due.body) _ = Q at tail ⊢
     refine wS_forZ.mpr ?_
     simp only [encT,↓wRun_eq w1,↓WS,ite_true,ite_false,Bool.false_eq_true,decide_eq_true_eq,↓reduceIte]
     refine ⟨_,rfl,_,_,_,_,rfl,rfl,rfl,?_⟩
     show wFor _ _ _ [D.tup [.lst [itD (p1 b x)],encT t1],D.tup [.lst [itD (p2 b y)],encT t2]] _ _
     simp only [List.length_cons,List.length_nil,List.nil_append,List.cons_append,↓wFor_cons,↓wFor_nil,↓wRun_eq m3,↓wRun_eq m4,↓wRun_eq g3,↓wRun_eq g4,↓WS,ite_true,ite_false,Bool.false_eq_true,decide_eq_true_eq,↓reduceIte]
     exact ⟨by decide,by decide,tail⟩
 | t,_,_,0,_,_,_,hn,_,_,_=>by omega
end P1
end
section
namespace P1
open PySem L2 PP
theorem wBlt_dvm {a b:Int} {Q:D→Prop}:wBlt .dvm [.int a,.int b] Q↔(0 < b∧b < 1073741824)∧Q (.tup [.int (a / b),.int (a % b)]):=yi
theorem r_cell (n:Nat) (ns:List Int) (k:Int) (h0:0≤k) (h1:k≤1000):wRun Gs gls (n+1) 24 [.lst (ns.map .int),.int k] fun d=>∃ c:Int,d = .int c:=by
 refine wRun_def d__law_cell rfl rfl rfl ?_;simp only [d__law_cell,init,SI,Nat.reduceAdd,Nat.reduceSub]
 simp only [↓WS,ite_true,ite_false,Bool.false_eq_true,decide_eq_true_eq,↓reduceIte]
 rw [List.length_map]
 split
 · rename_i h
   obtain ⟨d,hm,e⟩:=at_ok (ds:=ns.map D.int) h0 (by rw [List.length_map];exact h)
   obtain ⟨c,_,rfl⟩:=List.mem_map.mp hm
   exact ⟨_,e,c,rfl⟩
 · exact ⟨mul_r (by omega) (by omega),mul_r (by decide) (by decide),by decide,_,rfl⟩
theorem e30:(10:Int) ^ Int.toNat 30 = 1000000000000000000000000000000:=by decide +kernel
theorem e31:(10:Int) ^ Int.toNat 31 = 10000000000000000000000000000000:=by decide +kernel
theorem e200:(2:Nat) ^ 200 = 1606938044258990275541962092341162602522202993782792835301376:=by decide +kernel
theorem r_mix (n:Nat) (c:Int):wRun Gs gls (n+1) 25 [.int c] fun d=>∃ m:Int,d = .int m∧0≤m:=by
 refine wRun_def d__law_mix rfl rfl rfl ?_;simp only [d__law_mix,init,SI,Nat.reduceAdd,Nat.reduceSub]
 simp only [↓WS,ite_true,ite_false,Bool.false_eq_true,decide_eq_true_eq,↓reduceIte]
 rw [e30,e31]
 have a1:=Int.emod_nonneg c (show (1000000000000000000000000000000:Int)≠0 by decide)
 have a2:=Int.emod_lt_of_pos c (show (0:Int) < 1000000000000000000000000000000 by decide)
 generalize c % 1000000000000000000000000000000 = x at a1 a2
 have b1:=Int.emod_nonneg ((x+7) * 618970019642690137449562111) (show (1000000000000000000000000000000+57:Int)≠0 by decide)
 have b2:=Int.emod_lt_of_pos ((x+7) * 618970019642690137449562111) (show (0:Int) < 1000000000000000000000000000000+57 by decide)
 generalize (x+7) * 618970019642690137449562111 % (1000000000000000000000000000000+57) = y at b1 b2 ⊢
 have c1:=Int.emod_nonneg (y * y) (show (10000000000000000000000000000000+33:Int)≠0 by decide)
 exact ⟨⟨by decide,by decide,by decide⟩,by decide,mul_b (by rw [e200];omega) (by rw [e200];decide),⟨by decide,by decide,by decide⟩,by decide,mul_b (by rw [e200];omega) (by rw [e200];omega),⟨by decide,by decide,by decide⟩,by decide,c1⟩
theorem r_at (n:Nat) (c k m:Int) (k0:0≤k) (k8:k≤8) (hm:0 < m):wRun Gs gls (n+1) 26 [.int c,.int k,.int m] fun d=>∃ r:Int,d = .int r∧0≤r∧r < m:=by
 refine wRun_def d__law_at rfl rfl rfl ?_;simp only [d__law_at,init,SI,Nat.reduceAdd,Nat.reduceSub]
 simp only [↓WS,ite_true,ite_false,Bool.false_eq_true,decide_eq_true_eq,↓reduceIte]
 have hv:∃ v:Int,(0 < v∧v < 1000000000000000000000000000000000000000000000000000000000000)∧atI [D.int 1,D.int (10 ^ Int.toNat 3),D.int (10 ^ Int.toNat 6),D.int (10 ^ Int.toNat 9),D.int (10 ^ Int.toNat 12),D.int (10 ^ Int.toNat 15),D.int (10 ^ Int.toNat 18),D.int (10 ^ Int.toNat 21),D.int (10 ^ Int.toNat 24)] k = some (.int v):=by
  rcases (show k = 0∨k = 1∨k = 2∨k = 3∨k = 4∨k = 5∨k = 6∨k = 7∨k = 8 by omega) with h | h | h | h | h | h | h | h | h<;>rw [h]<;>exact ⟨_,by decide +kernel,rfl⟩
 obtain ⟨v,v1,ev⟩:=hv
 have p:∀ k:Int,0≤k→k≤100→0≤k∧k≤1000000∧Int.natAbs 10 < 2 ^ 64:=fun k a b=>⟨a,by omega,by decide⟩
 refine ⟨p _ (by decide) (by decide),p _ (by decide) (by decide),p _ (by decide) (by decide),p _ (by decide) (by decide),p _ (by decide) (by decide),p _ (by decide) (by decide),p _ (by decide) (by decide),p _ (by decide) (by decide),(show 9≤sizeLine by decide),_,ev,wOp_fdivI.mpr ⟨v1,wOp_modI.mpr ⟨by decide,wOp_modI.mpr ⟨hm,_,rfl,Int.emod_nonneg _ (by omega),Int.emod_lt_of_pos _ hm⟩⟩⟩⟩
theorem r_texts (n:Nat) (c:Int) (l:Str) (f:Int) (m:Nat) (f0:0 < f) (f1:f≤l.length) (hl:l.length≤100) (hm:m≤10):wRun Gs gls (n+2) 27 [.int c,.str l,.int f,.int m] fun d=>∃ ts:List Str,d = .lst (ts.map .str)∧ts.length = m:=by
 refine wRun_def d__law_texts rfl rfl rfl ?_;simp only [d__law_texts,init,SI,Nat.reduceAdd,Nat.reduceSub]
 simp only [↓WS,ite_true,ite_false,Bool.false_eq_true,decide_eq_true_eq,↓reduceIte]
 refine wRun_mono (r_at n c 0 8 (by decide) (by decide) (by decide)) ?_
 rintro _ ⟨z,rfl,z0,z8⟩
 simp only [↓WS,ite_true,ite_false,Bool.false_eq_true,decide_eq_true_eq,↓reduceIte]
 refine wRun_mono (r_at n c 1 (1+z) (by decide) (by decide) (by omega)) ?_
 rintro _ ⟨a,rfl,a0,a1⟩
 simp only [List.length_nil,↓WS,ite_true,ite_false,Bool.false_eq_true,decide_eq_true_eq,↓reduceIte]
 have ss:=s64
 refine ⟨by decide,⟨by omega,by omega⟩,?_⟩
 rw [Int.toNat_natCast]
 refine wFor_inv (fun xs δ=>∃ (ts:List Str) (s7 s8 s9 s10:Sl),δ = [.val (.int c),.val (.str l),.val (.int f),.val (.int m),.val (.int (1+z)),.val (.int a),.own (ts.map .str),s7,s8,s9,s10]∧ts.length+xs.length = m∧∀ x∈xs,∃ i:Int,x = .int i∧0≤i∧i < 10) ?_ ?_ _ _ ⟨[],_,_,_,_,rfl,by rw [rng_len];simp,fun x hx=>?_⟩
 · rintro x xs δ ⟨ts,s7,s8,s9,s10,rfl,hlen,hx⟩
   obtain ⟨i,rfl,i0,i1⟩:=hx x List.mem_cons_self
   rw [List.length_cons] at hlen
   simp only [↓WS,ite_true,ite_false,Bool.false_eq_true,decide_eq_true_eq,↓reduceIte]
   refine ⟨⟨by omega,by omega⟩,?_⟩
   refine wFor_inv (fun xs' δ=>∃ (t:Str) (s9 s10:Sl),δ = [.val (.int c),.val (.str l),.val (.int f),.val (.int m),.val (.int (1+z)),.val (.int a),.own (ts.map .str),.val (.int i),.val (.str t),s9,s10]∧t.length+xs'.length≤8∧∀ x∈xs',∃ j:Int,x = .int j∧0≤j∧j < 8) ?_ ?_ _ _ ⟨"",_,_,rfl,by rw [rng_len];show 0+(1+z).toNat≤8;omega,fun x hx=>?_⟩
   · rintro x xs' δ ⟨t,s9,s10,rfl,ht,hx'⟩
     obtain ⟨j,rfl,j0,j1⟩:=hx' x List.mem_cons_self
     rw [List.length_cons] at ht
     have q1:=Int.emod_nonneg j (show (6:Int)≠0 by decide)
     have q2:=Int.emod_lt_of_pos j (show (0:Int) < 6 by decide)
     have go:∀ w:Int,0 < w→w≤l.length→wRun Gs gls (n+1) 26 [.int c,.int (2+j % 6),.int w] fun d=>mulOk i (if j = a then 1 else 0) = true∧wOp .add d (.int (i * if j = a then 1 else 0)) fun d=>wOp .mod d (.int w) fun d=>wIx (.str l) d fun d=>wOp .add (.str t) d fun d=>∃ (t:Str) (s9 s10:Sl),([.val (.int c),.val (.str l),.val (.int f),.val (.int m),.val (.int (1+z)),.val (.int a),.own (ts.map .str),.val (.int i),.val d,.val (.int j),.val (.int w)]:PP.Loc) = [.val (.int c),.val (.str l),.val (.int f),.val (.int m),.val (.int (1+z)),.val (.int a),.own (ts.map .str),.val (.int i),.val (.str t),s9,s10]∧t.length+xs'.length≤8∧∀ x∈xs',∃ j:Int,x = .int j∧0≤j∧j < 8:=fun w w0 w1=>by
      refine wRun_mono (r_at n c _ w (by omega) (by omega) w0) ?_
      rintro _ ⟨r,rfl,r0,r1⟩
      have v1:=Int.emod_nonneg (r+i * if j = a then 1 else 0) (show w≠0 by omega)
      have v2:=Int.emod_lt_of_pos (r+i * if j = a then 1 else 0) w0
      obtain ⟨u,_,e⟩:=at_ok (ds:=l.cps.toList) v1 (by rw [str_len];omega)
      have e1:(⟨#[u]⟩:Str).length = 1:=rfl
      refine ⟨mul_l (by omega) (by omega),wOp_addI.mpr (wOp_modI.mpr ⟨w0,wIx_str.mpr ⟨small (by omega),u,e,wOp_addS.mpr ⟨small (by omega),_,_,_,rfl,by rw [str_app,e1];omega,fun x hx=>hx' x (List.mem_cons_of_mem _ hx)⟩⟩⟩)⟩
     simp only [↓WS,ite_true,ite_false,Bool.false_eq_true,decide_eq_true_eq,↓reduceIte]
     exact ⟨small (by omega),iteI (fun _=>⟨by decide,go f f0 f1⟩) fun _=>⟨by decide,go l.length (by omega) (Int.le_refl _)⟩⟩
   · rintro δ ⟨t,s9,s10,rfl,ht,_⟩
     simp only [↓WS,ite_true,ite_false,Bool.false_eq_true,decide_eq_true_eq,↓reduceIte]
     exact ⟨by rw [List.length_map];omega,ts++[t],_,_,_,_,by rw [List.map_append];rfl,by rw [List.length_append,List.length_singleton];omega,fun x h=>hx x (List.mem_cons_of_mem _ h)⟩
   · obtain ⟨j,hj,rfl⟩:=rng_mem hx
     exact ⟨_,rfl,by omega,by omega⟩
 · rintro δ ⟨ts,s7,s8,s9,s10,rfl,hlen,_⟩
   simp only [↓WS,ite_true,ite_false,Bool.false_eq_true,decide_eq_true_eq,↓reduceIte]
   exact ⟨ts,rfl,by simpa using hlen⟩
 · obtain ⟨j,hj,rfl⟩:=rng_mem hx
   exact ⟨_,rfl,by omega,by omega⟩
theorem r_words (n:Nat) (ns:List Int):wRun Gs gls (n+3) 28 [.lst (ns.map .int)] fun d=>∃ ts:List Str,d = .lst (ts.map .str)∧ts.length = 3:=by
 refine wRun_def d__law_words rfl rfl rfl ?_;simp only [d__law_words,init,SI,Nat.reduceAdd,Nat.reduceSub]
 simp only [↓WS,ite_true,ite_false,Bool.false_eq_true,decide_eq_true_eq,↓reduceIte]
 refine wRun_mono (r_cell (n+1) ns 0 (by decide) (by decide)) ?_
 rintro _ ⟨c,rfl⟩
 refine wRun_mono (r_mix (n+1) c) ?_
 rintro _ ⟨m,rfl,_⟩
 exact r_texts n m "bcdfghjklmpqrtvwxz" 18 3 (by decide) (by decide) (by decide) (by decide)
theorem r_names (n:Nat) (ns:List Int):wRun Gs gls (n+3) 29 [.lst (ns.map .int)] fun d=>∃ ts:List Str,d = .lst (ts.map .str)∧ts.length = 4:=by
 refine wRun_def d__law_names_drawn rfl rfl rfl ?_;simp only [d__law_names_drawn,init,SI,Nat.reduceAdd,Nat.reduceSub]
 simp only [↓WS,ite_true,ite_false,Bool.false_eq_true,decide_eq_true_eq,↓reduceIte]
 refine wRun_mono (r_cell (n+1) ns 1 (by decide) (by decide)) ?_
 rintro _ ⟨c,rfl⟩
 (try simp only [↓WS,ite_true,ite_false,Bool.false_eq_true,decide_eq_true_eq,↓reduceIte])
 refine wRun_mono (r_mix (n+1) c) ?_
 rintro _ ⟨m,rfl,_⟩
 simp only [List.length_cons,List.length_nil,↓WS,ite_true,ite_false,Bool.false_eq_true,decide_eq_true_eq,↓reduceIte]
 refine ⟨⟨by decide,by decide,by decide⟩,by decide +kernel,by decide,iteI (fun _=>⟨by decide,["n0","n1","n2","n3"],rfl,rfl⟩) fun _=>r_texts n m "abcdefghijklmnopqrstuvwxyz123456789" 26 4 (by decide) (by decide) (by decide) (by decide)⟩
theorem at_strs {ts:List Str} {j:Int} (h0:0≤j) (h1:j < ts.length):∃ t:Str,t∈ts∧atI (ts.map D.str) j = some (.str t):=by
 obtain ⟨d,hm,e⟩:=at_ok (ds:=ts.map D.str) h0 (by rw [List.length_map];exact h1)
 obtain ⟨t,ht,rfl⟩:=List.mem_map.mp hm
 exact ⟨t,ht,e⟩
theorem r_word (n:Nat) (c:Int) (ws nms:List Str) (hw:ws.length = 3) (hm:nms.length = 4):wRun Gs gls (n+1) 31 [.int c,.lst (ws.map .str),.lst (nms.map .str)] fun d=>∃ w ts,d = enc (.word w ts):=by
 refine wRun_def d__law_word rfl rfl rfl ?_;simp only [d__law_word,init,SI,Nat.reduceAdd,Nat.reduceSub]
 simp only [List.length_map,List.length_nil,↓wBlt_dvm,↓WS,ite_true,ite_false,Bool.false_eq_true,decide_eq_true_eq,↓reduceIte]
 rw [hw]
 have a1:=Int.emod_nonneg c (show (4:Int)≠0 by decide)
 have a2:=Int.emod_lt_of_pos c (show (0:Int) < 4 by decide)
 have b1:=Int.emod_nonneg (c / 4) (show ((3:Nat):Int)≠0 by decide)
 have b2:=Int.emod_lt_of_pos (c / 4) (show (0:Int) < ((3:Nat):Int) by decide)
 obtain ⟨w,_,ew⟩:=at_strs (ts:=ws) (j:=c / 4 % ((3:Nat):Int)) b1 (by rw [hw];exact b2)
 refine ⟨⟨by decide,by decide⟩,⟨by decide,by decide⟩,by decide,⟨by omega,by omega⟩,?_⟩
 have ss:=s64
 refine wFor_inv (fun xs δ=>∃ (c':Int) (ts:List Str) (s6 s7:Sl),δ = [.val (.int c'),.val (.lst (ws.map .str)),.val (.lst (nms.map .str)),.val (.int (c % 4)),.val (.int (c / 4 % ((3:Nat):Int))),.own (ts.map .str),s6,s7]∧ts.length+xs.length≤3) ?_ ?_ _ _ ⟨_,[],_,_,rfl,by rw [rng_len,List.length_nil];omega⟩
 · rintro x xs δ ⟨c',ts,s6,s7,rfl,hl⟩
   rw [List.length_cons] at hl
   simp only [List.length_map,↓wBlt_dvm,↓WS,ite_true,ite_false,Bool.false_eq_true,decide_eq_true_eq,↓reduceIte]
   rw [hm]
   obtain ⟨t,_,et⟩:=at_strs (ts:=nms) (j:=c' % ((4:Nat):Int)) (Int.emod_nonneg _ (by decide)) (by rw [hm];exact Int.emod_lt_of_pos _ (by decide))
   exact ⟨⟨by decide,by decide⟩,_,et,by omega,_,ts++[t],_,_,by rw [List.map_append];rfl,by rw [List.length_append,List.length_singleton];omega⟩
 · rintro δ ⟨c',ts,s6,s7,rfl,hl⟩
   simp only [List.length_cons,List.length_nil,↓WS,ite_true,ite_false,Bool.false_eq_true,decide_eq_true_eq,↓reduceIte]
   exact ⟨_,ew,by decide,w,ts,rfl⟩
theorem wSl_tl {a:D} {ds:List D} {Q:D→Prop}:wSl (.tup (a::ds)) (some 1) none Q↔Q (.tup ds):=by
 have e1:HT.sIx (a::ds).length 0 (some 1) = 1:=by
  rw [show (1:Int) = ((1:Nat):Int) from rfl,HT.sIx_nat]
  simp
 have e2:HT.sIx (a::ds).length (a::ds).length none = (a::ds).length:=rfl
 unfold wSl slD
 dsimp only
 rw [e1,e2,if_neg (by simp)]
 unfold cutD
 rw [e1,e2]
 simp
theorem r_size:∀ (A:F) (n:Nat),hF A≤n→PP.run Gs gls n 30 [enc A] = some (.int (sz A))
 | .yes,n+1,_=>by kernel_rfl
 | .no,n+1,_=>by kernel_rfl
 | .word w ts,n+1,_=>by kernel_rfl
 | .neg a,n+1,h=>by
   have ih:=r_size a n (by simp only [hF] at h;omega)
   apply wRun_out
   rw [show enc (.neg a) = .tup [.str "not",enc a] from rfl]
   refine wRun_def d__law_size rfl rfl rfl ?_;simp only [d__law_size,init,SI,Nat.reduceAdd,Nat.reduceSub]
   refine wSs_cons.mpr (ifs_no ?_ (wSs_nil.mpr (thenS_nx.mpr ?_)))
   · simp only [↓WS,ite_true,ite_false,Bool.false_eq_true,decide_eq_true_eq,↓reduceIte]
     exact ⟨by decide +kernel,trivial⟩
   · simp only [↓wSl_tl,↓wComp_nil,↓wComp_cons,SI,List.take,Nat.reduceAdd,↓wRun_eq ih,↓WS,ite_true,ite_false,Bool.false_eq_true,decide_eq_true_eq,↓reduceIte]
     refine ⟨by decide,(wBlt_sum (ns:=[(sz a:Int)]) rfl).mpr (wOp_addI.mpr ?_)⟩
     simp only [sz,List.sum_cons,List.sum_nil]
     congr 1
     omega
 | .bi b x y,n+1,h=>by
   have ih1:=r_size x n (by simp only [hF] at h;omega)
   have ih2:=r_size y n (by simp only [hF] at h;omega)
   apply wRun_out
   rw [show enc (.bi b x y) = .tup [.str b.s,enc x,enc y] from rfl]
   refine wRun_def d__law_size rfl rfl rfl ?_;simp only [d__law_size,init,SI,Nat.reduceAdd,Nat.reduceSub]
   refine wSs_cons.mpr (ifs_no ?_ (wSs_nil.mpr (thenS_nx.mpr ?_)))
   · simp only [↓WS,ite_true,ite_false,Bool.false_eq_true,decide_eq_true_eq,↓reduceIte]
     exact ⟨by cases b<;>decide +kernel,trivial⟩
   · simp only [↓wSl_tl,↓wComp_nil,↓wComp_cons,SI,List.take,Nat.reduceAdd,↓wRun_eq ih1,↓wRun_eq ih2,↓WS,ite_true,ite_false,Bool.false_eq_true,decide_eq_true_eq,↓reduceIte]
     refine ⟨by decide,(wBlt_sum (ns:=[(sz x:Int),(sz y:Int)]) rfl).mpr (wOp_addI.mpr ?_)⟩
     simp only [sz,List.sum_cons,List.sum_nil]
     congr 1
     omega
 | A,0,h=>by cases A<;>simp only [hF] at h<;>omega
end P1
end
section
namespace P1
open PySem L2 PP
def rp (A:F):Prop:=sz A≤30∧2 * hF A≤sz A+1
def rowp (row:List It):Prop:=∀ p∈row,rp p.2
theorem rowp.low {row:List It} (h:rowp row):low row:=fun p hp=>by have:=(h p hp).1;omega
theorem rp_word (w:Str) (ts:List Str):rp (.word w ts):=⟨by simp [sz],by simp [sz,hF]⟩
theorem sz_pos:∀ A:F,1≤sz A
 | .yes | .no | .word _ _=>Nat.le_refl _
 | .neg a=>by simp [sz]
 | .bi _ x y=>by simp [sz]
theorem rp_bi {b:B} {x y:F} (hx:rp x) (hy:rp y) (h:sz (.bi b x y)≤30):rp (.bi b x y):=by
 refine ⟨h,?_⟩
 have:=hx.2
 have:=hy.2
 have:=sz_pos x
 have:=sz_pos y
 simp only [sz,hF]
 omega
theorem rowp_mo {l:List It} (h:rowp l):rowp (mo l):=fun p hp=>h p (mo_mem.mp hp)
theorem rowp_app {a b:List It} (h:rowp a) (h2:rowp b):rowp (a++b):=fun p hp=>(List.mem_append.mp hp).elim (h p) (h2 p)
theorem rowp_one {p:It} (h:rp p.2):rowp [p]:=fun q hq=>by rw [List.mem_singleton.mp hq];exact h
structure El where
 row:List It
 t:T
def El.d (e:El):D:=.tup [.tup (e.row.map itD),encT e.t,.int (ht e.t)]
def okP:T→Prop
 | .close=>True
 | .rule b x y t1 t2=>rp (.bi b x y)∧okP t1∧okP t2
theorem okP.T:∀ {t:T},okP t→okT t
 | .close,_=>trivial
 | .rule b x y t1 t2,h=>⟨by have:=h.1.1;omega,okP.T h.2.1,okP.T h.2.2⟩
structure Good (e:El):Prop where
 row:rowp e.row
 len:e.row.length≤30
 tr:okP e.t
 high:ht e.t≤30
 prf:prf (·∈e.row) e.t
theorem sideAt (c:Int):∃ L,atI [D.str "left",D.str "right"] (c % 2) = some (.str (sd L)):=by
 rcases (show c % 2 = 0∨c % 2 = 1 by omega) with h | h<;>rw [h]
 · exact ⟨true,rfl⟩
 · exact ⟨false,rfl⟩
def lfS (n2 way bits:Int) (ws nms:List Str) (L0 L1:Bool) (A:F) (row:List It) (s8:Sl):PP.Loc:=[.val (.int n2),.val (.lst (ws.map .str)),.val (.lst (nms.map .str)),.val (.int way),.val (.int bits),.val (.lst [.str (sd L0),.str (sd L1)]),.val (enc A),.own (row.map itD),s8]
theorem rp_yes:rp .yes:=⟨by decide,by decide⟩
theorem rp_no:rp .no:=⟨by decide,by decide⟩
theorem bAt (c:Int):∃ b:B,atI [D.str "and",D.str "or",D.str "if"] (c % 3) = some (.str b.s):=by
 rcases (show c % 3 = 0∨c % 3 = 1∨c % 3 = 2 by omega) with h | h | h<;>rw [h]
 · exact ⟨.and,rfl⟩
 · exact ⟨.or,rfl⟩
 · exact ⟨.imp,rfl⟩
theorem row2 {a b:It} (ha:rp a.2) (hb:rp b.2):rowp [a,b]:=fun p hp=>by
 simp only [List.mem_cons,List.not_mem_nil,or_false] at hp
 rcases hp with rfl | rfl
 · exact ha
 · exact hb
theorem r_leaf (n:Nat) (c:Int) (ws nms:List Str) (hw:ws.length = 3) (hm:nms.length = 4):wRun Gs gls (n+3) 35 [.int c,.lst (ws.map .str),.lst (nms.map .str)] fun d=>∃ e:El,d = e.d∧Good e∧e.t = .close:=by
 refine wRun_def d__law_leaf rfl rfl rfl ?_;simp only [d__law_leaf,init,SI,Nat.reduceAdd,Nat.reduceSub]
 obtain ⟨L0,e0⟩:=sideAt (c / 11 % 64)
 obtain ⟨L1,e1⟩:=sideAt (c / 11 % 64 / 2)
 have c1:=Int.emod_nonneg (c / 11) (show (64:Int)≠0 by decide)
 have c2:=Int.emod_lt_of_pos (c / 11) (show (0:Int) < 64 by decide)
 refine wSs_cut (R:=fun δ=>∃ (A:F) (row:List It),δ = lfS (c / 11 / 64) (c % 11) (c / 11 % 64) ws nms L0 L1 A row .no∧rowp row∧row.length = 2∧clo (·∈row)) 8 _ _ ?_ ?_
 · simp only [takeS,List.length_cons,List.length_nil,↓wBlt_dvm,↓nxS_nx,↓WS,ite_true,ite_false,Bool.false_eq_true,decide_eq_true_eq,↓reduceIte]
   refine ⟨⟨by decide,by decide⟩,⟨by decide,by decide⟩,by decide,by decide,_,e0,by decide,⟨by decide,by decide⟩,by decide,_,e1,by decide,wRun_mono (r_word (n+1) _ ws nms hw hm) ?_⟩
   rintro _ ⟨w,ts,rfl⟩
   have f0:∀ {Q:D→Prop},Q (.str (sd L0))→∃ d,atI [D.str (sd L0),D.str (sd L1)] 0 = some d∧Q d:=fun q=>⟨_,rfl,q⟩
   have hrp:=rp_word w ts
   refine ⟨by decide,by decide,by decide,iteI (fun h0=>⟨by decide,by decide,f0 ⟨by decide,by decide,?_⟩⟩) fun h0=>iteI (fun h1=>⟨by decide,by decide,f0 ⟨by decide,by decide,?_⟩⟩) fun h1=>?_⟩
   · rw [if_neg (by omega),if_neg (by omega)]
     exact ⟨.word w ts,[(false,.yes),(L0,.word w ts)],rfl,row2 rp_yes hrp,rfl,.inl (by simp)⟩
   · rw [if_neg (by omega)]
     exact ⟨.word w ts,[(true,.no),(L0,.word w ts)],rfl,row2 rp_no hrp,rfl,.inr (.inl (by simp))⟩
   · refine iteI (fun h2=>?_) fun h2=>⟨.word w ts,[(true,.word w ts),(false,.word w ts)],rfl,row2 hrp hrp,rfl,.inr (.inr ⟨.word w ts,by simp,by simp⟩)⟩
     obtain ⟨b,eb⟩:=bAt (c / 11 % 64 / 4)
     refine ⟨by decide,⟨by decide,by decide⟩,by decide,_,eb,⟨by decide,by decide,by decide⟩,by decide +kernel,wRun_mono (r_word (n+1) _ ws nms hw hm) ?_⟩
     rintro _ ⟨w2,ts2,rfl⟩
     have hb:rp (.bi b (.word w ts) (.word w2 ts2)):=rp_bi hrp (rp_word _ _) (by simp [sz])
     exact ⟨by decide,by decide,by decide,by decide,.bi b (.word w ts) (.word w2 ts2),[(true,.bi b (.word w ts) (.word w2 ts2)),(false,.bi b (.word w ts) (.word w2 ts2))],rfl,row2 hb hb,rfl,.inr (.inr ⟨.bi b (.word w ts) (.word w2 ts2),by simp,by simp⟩)⟩
 · rintro δ ⟨A,row,rfl,hr,hl,hc⟩
   have ss:=s64
   simp only [dropS,lfS,List.length_cons,List.length_nil,↓WS,ite_true,ite_false,Bool.false_eq_true,decide_eq_true_eq,↓reduceIte]
   refine ⟨⟨by decide,by decide⟩,⟨by omega,by omega⟩,?_⟩
   refine wFor_inv (fun xs δ=>∃ (row':List It) (s8:Sl),δ = lfS (c / 11 / 64) (c % 11) (c / 11 % 64) ws nms L0 L1 A row' s8∧rowp row'∧row'.length+xs.length≤5∧clo (·∈row')∧∀ x∈xs,∃ j:Int,x = .int j∧0≤j∧j < 3) ?_ ?_ _ _ ⟨row,.no,rfl,hr,by rw [rng_len];omega,hc,fun x hx=>?_⟩
   · rintro x xs δ ⟨row',s8,rfl,hr',hl',hc',hx⟩
     obtain ⟨j,rfl,j0,j1⟩:=hx x List.mem_cons_self
     rw [List.length_cons] at hl'
     have eL:∃ L,atI [D.str (sd L0),D.str (sd L1)] (j % 2) = some (.str (sd L)):=by
      rcases (show j % 2 = 0∨j % 2 = 1 by omega) with h | h<;>rw [h]
      · exact ⟨L0,rfl⟩
      · exact ⟨L1,rfl⟩
     obtain ⟨L,eL⟩:=eL
     have eV:∃ v:Int,(0 < v∧v < 1000000000000000000000000000000000000000000000000000000000000)∧atI [D.int (10 ^ Int.toNat 9),D.int (10 ^ Int.toNat 12),D.int (10 ^ Int.toNat 15)] j = some (.int v):=by
      rcases (show j = 0∨j = 1∨j = 2 by omega) with h | h | h<;>rw [h]<;>exact ⟨_,by decide +kernel,rfl⟩
     obtain ⟨v,v1,ev⟩:=eV
     simp only [lfS,List.length_cons,List.length_nil,↓WS,ite_true,ite_false,Bool.false_eq_true,decide_eq_true_eq,↓reduceIte]
     refine ⟨by decide,_,eL,⟨by decide,by decide,by decide⟩,⟨by decide,by decide,by decide⟩,⟨by decide,by decide,by decide⟩,by decide,_,ev,wOp_fdivI.mpr ⟨v1,wRun_mono (r_word (n+1) _ ws nms hw hm) ?_⟩⟩
     rintro _ ⟨w,ts,rfl⟩
     exact ⟨by decide,by rw [List.length_map];omega,row'++[(L,.word w ts)],_,by rw [List.map_append];rfl,rowp_app hr' (rowp_one (rp_word w ts)),by rw [List.length_append,List.length_singleton];omega,by
      rcases hc' with z | z | ⟨B,z1,z2⟩
      · exact .inl (List.mem_append_left _ z)
      · exact .inr (.inl (List.mem_append_left _ z))
      · exact .inr (.inr ⟨B,List.mem_append_left _ z1,List.mem_append_left _ z2⟩),fun x h=>hx x (List.mem_cons_of_mem _ h)⟩
   · rintro δ ⟨row',s8,rfl,hr',hl',hc',_⟩
     have hl':row'.length≤5:=by simpa using hl'
     have w:=r_lmore n row' [] _ _ (.inl rfl) rfl (by rw [List.append_nil];exact hr'.low) (by simp only [List.length_nil];omega)
     rw [List.append_nil,List.map_nil] at w
     simp only [lfS,List.length_cons,List.length_nil,↓wRun_eq w,↓WS,ite_true,ite_false,Bool.false_eq_true,decide_eq_true_eq,↓reduceIte]
     have:=mo_len row'
     refine ⟨by decide,by decide,by decide,⟨mo row',.close⟩,rfl,⟨rowp_mo hr',by show (mo row').length≤30;omega,trivial,(show 1≤30 by decide),?_⟩,rfl⟩
     rcases hc' with z | z | ⟨B,z1,z2⟩
     · exact .inl (mo_mem.mpr z)
     · exact .inr (.inl (mo_mem.mpr z))
     · exact .inr (.inr ⟨B,mo_mem.mpr z1,mo_mem.mpr z2⟩)
   · obtain ⟨j,hj,rfl⟩:=rng_mem hx
     exact ⟨_,rfl,by omega,by omega⟩
theorem eq_nil {l:List It} (h:low l) {Q:Bool→Prop} (q:Q l.isEmpty):wCmp .eq (.lst (l.map itD)) (.lst []) Q:=by
 have d:=dep_its h
 refine ⟨l.isEmpty,?_,q⟩
 show (if depOk (.lst (l.map itD)) (.lst []) = true then some (eqD (.lst (l.map itD)) (.lst [])) else _) = _
 have e:eqD (.lst (l.map itD)) (.lst []) = l.isEmpty:=by
  unfold eqD
  cases l with
  | nil=>unfold eqDs;rfl
  | cons p l=>unfold eqDs;rfl
 rw [if_pos,e]
 unfold depOk
 rw [show kin (.lst (l.map itD)) (.lst []) = true from rfl,Bool.true_and,Bool.and_eq_true,decide_eq_true_eq,decide_eq_true_eq]
 rw [show dep (.lst []) = 1 by unfold dep depL;rfl]
 unfold dep
 omega
theorem r_on (n:Nat) (row:List It) (L:Bool) (c:Int) (E:F) (h:rowp row) (hl:row.length≤30) (hE:rp E):wRun Gs gls (n+2) 36 [.tup (row.map itD),.str (sd L),.int c,enc E] fun d=>∃ A:F,d = itD (L,A)∧rp A:=by
 have ss:=s64
 refine wRun_def d__law_on rfl rfl rfl ?_;simp only [d__law_on,init,SI,Nat.reduceAdd,Nat.reduceSub]
 simp only [List.length_cons,List.length_nil,↓WS,ite_true,ite_false,Bool.false_eq_true,decide_eq_true_eq,↓reduceIte]
 refine wComp_map itD (fun p=>sd p.1 == sd L) itD row (fun p hp=>?_) ?_
 · obtain ⟨b,A⟩:=p
   unfold itD
   simp only [SI,↓WS,ite_true,ite_false,Bool.false_eq_true,decide_eq_true_eq,↓reduceIte]
   exact ⟨trivial,iteI (fun _=>⟨trivial,rfl⟩) fun _=>rfl⟩
 · have hf:∀ p∈row.filter (fun p=>sd p.1 == sd L),p.1 = L∧rp p.2:=fun p hp=>by
    rw [List.mem_filter] at hp
    exact ⟨sd_inj _ _ (by simpa using hp.2),h p hp.1⟩
   have hlf:=List.length_filter_le (fun p:It=>sd p.1 == sd L) row
   generalize row.filter (fun p=>sd p.1 == sd L) = sm at hf hlf
   have lo:low sm:=fun p hp=>by have:=(hf p hp).2.1;omega
   have fin:(0+1+1≤sizeLine∧∃ A,D.tup [D.str (sd L),enc E] = itD (L,A)∧rp A):=⟨by decide,E,rfl,hE⟩
   simp only [List.length_map,↓WS,ite_true,ite_false,Bool.false_eq_true,decide_eq_true_eq,↓reduceIte]
   refine ⟨by omega,Nat.zero_le _,eq_nil lo (iteI (fun z=>fin) fun z=>wRun_mono (r_at n c 0 7 (by decide) (by decide) (by decide)) ?_)⟩
   rintro _ ⟨r,rfl,_,_⟩
   have hpos:0 < sm.length:=by
    cases sm with
    | nil=>exact absurd rfl z
    | cons p sm=>simp
   simp only [↓WS,ite_true,ite_false,Bool.false_eq_true,decide_eq_true_eq,↓reduceIte]
   refine iteI (fun z=>fin) fun z=>wRun_mono (r_at n c 1 sm.length (by decide) (by decide) (by omega)) ?_
   rintro _ ⟨r2,rfl,r0,r1⟩
   obtain ⟨d,hd,e⟩:=at_ok (ds:=sm.map itD) r0 (by rw [List.length_map];exact r1)
   obtain ⟨⟨b,A⟩,hp,rfl⟩:=List.mem_map.mp hd
   obtain ⟨q1,q2⟩:=hf _ hp
   have q1:b = L:=q1
   subst q1
   exact wIx_lst.mpr ⟨_,e,A,rfl,q2⟩
theorem r_both (n:Nat) (e1 e2:El) (g1:Good e1) (g2:Good e2) (c:Int) (E:F) (hE:rp E) (hn:100≤n):wRun Gs gls (n+3) 37 [e1.d,e2.d,.int c,enc E] fun d=>∃ e:El,d = e.d∧Good e∧nd e.t≤nd e1.t+nd e2.t+1:=by
 have ss:=s64
 obtain ⟨row1,t1⟩:=e1
 obtain ⟨row2,t2⟩:=e2
 refine wRun_def d__law_both rfl rfl rfl ?_;simp only [d__law_both,init,SI,Nat.reduceAdd,Nat.reduceSub]
 unfold El.d
 simp only [List.length_cons,List.length_nil,↓WS,ite_true,ite_false,Bool.false_eq_true,decide_eq_true_eq,↓reduceIte]
 refine ⟨by decide,by decide,by decide,by decide,wRun_mono (r_at (n+1) c 2 3 (by decide) (by decide) (by decide)) ?_⟩
 rintro _ ⟨r,rfl,r0,r1⟩
 have hb:∃ b:B,atI [D.tup [.str "and",.str "right",.str "right"],D.tup [.str "or",.str "left",.str "left"],D.tup [.str "if",.str "right",.str "left"]] r = some (.tup [.str b.s,.str (sd (fB b)),.str (sd (sB b))]):=by
  rcases (show r = 0∨r = 1∨r = 2 by omega) with h | h | h<;>rw [h]
  · exact ⟨.and,rfl⟩
  · exact ⟨.or,rfl⟩
  · exact ⟨.imp,rfl⟩
 obtain ⟨b,eb⟩:=hb
 refine ⟨_,eb,?_⟩
 (try simp only [↓WS,ite_true,ite_false,Bool.false_eq_true,decide_eq_true_eq,↓reduceIte])
 refine wRun_mono (r_on n row1 (fB b) c E g1.row g1.len hE) ?_
 rintro _ ⟨A,rfl,hA⟩
 (try simp only [↓WS,ite_true,ite_false,Bool.false_eq_true,decide_eq_true_eq,↓reduceIte])
 refine ⟨⟨by decide,by decide,by decide⟩,by decide +kernel,wRun_mono (r_on n row2 (sB b) _ E g2.row g2.len hE) ?_⟩
 rintro _ ⟨A2,rfl,hA2⟩
 have ix1:∀ (p:It) (Q:D→Prop),Q (enc p.2)→wIx (itD p) (.int 1) Q:=fun p Q q=>by
  unfold itD
  simp only [↓WS,ite_true,ite_false,Bool.false_eq_true,decide_eq_true_eq,↓reduceIte]
  exact q
 refine ix1 _ _ (ix1 _ _ ⟨by decide,by decide,?_⟩)
 have f1:=List.length_filter_le (fun p:It=>!eqD (itD p) (itD (fB b,A))) row1
 have f2:=List.length_filter_le (fun p:It=>!eqD (itD p) (itD (sB b,A2))) row2
 have l1:row1.length≤30:=g1.len
 have l2:row2.length≤30:=g2.len
 have hA30:=hA.1
 have hA230:=hA2.1
 have k1:∀ p,p∈row1→p∈row1.filter (fun p=>!eqD (itD p) (itD (fB b,A)))∨p = p1 b A:=fun p hp=>by
  cases z:eqD (itD p) (itD (fB b,A)) with
  | true=>exact .inr (eq_it z)
  | false=>exact .inl (List.mem_filter.mpr ⟨hp,by rw [z];rfl⟩)
 have k2:∀ p,p∈row2→p∈row2.filter (fun p=>!eqD (itD p) (itD (sB b,A2)))∨p = p2 b A2:=fun p hp=>by
  cases z:eqD (itD p) (itD (sB b,A2)) with
  | true=>exact .inr (eq_it z)
  | false=>exact .inl (List.mem_filter.mpr ⟨hp,by rw [z];rfl⟩)
 have m1:∀ p∈row1.filter (fun p=>!eqD (itD p) (itD (fB b,A))),p∈row1:=fun p hp=>(List.mem_filter.mp hp).1
 have m2:∀ p∈row2.filter (fun p=>!eqD (itD p) (itD (sB b,A2))),p∈row2:=fun p hp=>(List.mem_filter.mp hp).1
 refine wComp_map itD (fun p=>!eqD (itD p) (itD (fB b,A))) itD row1 (fun p hp=>?_) ⟨by rw [List.length_map];omega,?_⟩
 · simp only [SI,↓WS,ite_true,ite_false,Bool.false_eq_true,decide_eq_true_eq,↓reduceIte]
   exact ne_it (g1.row.low p hp) (by show sz A≤61;omega) ⟨rfl,iteI (fun _=>⟨trivial,rfl⟩) fun _=>rfl⟩
 simp only [↓WS,ite_true,ite_false,Bool.false_eq_true,decide_eq_true_eq,↓reduceIte]
 refine wComp_map itD (fun p=>!eqD (itD p) (itD (sB b,A2))) itD row2 (fun p hp=>?_) ⟨by rw [List.length_map];omega,by rw [List.length_map,List.length_map];omega,?_⟩
 · simp only [SI,↓WS,ite_true,ite_false,Bool.false_eq_true,decide_eq_true_eq,↓reduceIte]
   exact ne_it (g2.row.low p hp) (by show sz A2≤61;omega) ⟨rfl,iteI (fun _=>⟨trivial,rfl⟩) fun _=>rfl⟩
 generalize row1.filter (fun p=>!eqD (itD p) (itD (fB b,A))) = q1 at f1 k1 m1 ⊢
 generalize row2.filter (fun p=>!eqD (itD p) (itD (sB b,A2))) = q2 at f2 k2 m2 ⊢
 have hk:rowp (q1++q2):=rowp_app (fun p hp=>g1.row p (m1 p hp)) fun p hp=>g2.row p (m2 p hp)
 have hmade:sz (.bi b A A2)≤61:=by simp only [sz];omega
 have w:=r_lmore n (q1++q2) [(sB b,.bi b A A2)] _ _ (.inl rfl) rfl (hk.low.app (.one hmade)) (by simp only [List.length_append,List.length_cons,List.length_nil];omega)
 rw [List.map_append] at w
 have w2:=r_size (.bi b A A2) (n+2) (by have:=hF_sz (.bi b A A2);omega)
 rw [← List.map_append] at w ⊢
 have ew:∀ {Q:D→Prop},Q (.tup ((mo (q1++q2++[(sB b,.bi b A A2)])).map itD))→wRun Gs gls (n+2) 32 [.lst ((q1++q2).map itD),.lst [.tup [.str (sd (sB b)),.tup [.str b.s,enc A,enc A2]]]] Q:=fun q=>(wRun_eq w).mpr q
 simp only [List.length_cons,List.length_nil,↓WS,ite_true,ite_false,Bool.false_eq_true,decide_eq_true_eq,↓reduceIte]
 refine ⟨by decide,ew ?_⟩
 simp only [↓WS,ite_true,ite_false,Bool.false_eq_true,decide_eq_true_eq,↓reduceIte]
 have two:∃ e:El,D.tup [D.tup (row2.map itD),encT t2,D.int (ht t2)] = D.tup [D.tup (e.row.map itD),encT e.t,D.int (ht e.t)]∧Good e∧nd e.t≤nd t1+nd t2+1:=⟨⟨row2,t2⟩,rfl,g2,by show nd t2≤_;omega⟩
 refine iteI (fun _=>two) fun z1=>iteI (fun _=>two) fun z2=>?_
 have w2':∀ {Q:D→Prop},Q (.int (sz (.bi b A A2)))→wRun Gs gls (n+2) 30 [.tup [.str b.s,enc A,enc A2]] Q:=fun q=>(wRun_eq w2).mpr q
 refine w2' (wCmp_gt.mpr ?_)
 simp only [decide_eq_true_eq]
 refine iteI (fun _=>two) fun z3=>⟨by decide,by decide,by decide,⟨mo (q1++q2++[(sB b,.bi b A A2)]),.rule b A A2 t1 t2⟩,?_,⟨?_,?_,?_,?_,?_⟩,?_⟩
 · have eh:(1+if (ht t2:Int) > (ht t1:Int) then (ht t2:Int) else (ht t1:Int)) = ((ht (.rule b A A2 t1 t2):Nat):Int):=by
    simp only [ht]
    split<;>omega
   rw [eh]
   rfl
 · exact rowp_mo (rowp_app hk (rowp_one (rp_bi hA hA2 (by omega))))
 · rw [List.length_map] at z1
   show (mo (q1++q2++[(sB b,.bi b A A2)])).length≤30
   omega
 · exact ⟨rp_bi hA hA2 (by omega),g1.tr,g2.tr⟩
 · have a1:ht t1≤30:=g1.high
   have a2:ht t2≤30:=g2.high
   show max (ht t1) (ht t2)+1≤30
   split at z2<;>omega
 · refine ⟨mo_mem.mpr (by simp),prf_mono (fun p hp=>?_) g1.prf,prf_mono (fun p hp=>?_) g2.prf⟩
   · rcases k1 p hp with z | z
     · exact .inl (mo_mem.mpr (by simp [z]))
     · exact .inr z
   · rcases k2 p hp with z | z
     · exact .inl (mo_mem.mpr (by simp [z]))
     · exact .inr z
 · show nd t1+nd t2+1≤_
   exact Nat.le_refl _
theorem r_dealt (n:Nat) (row:List It) (c:Int) (hl:row.length≤30):wRun Gs gls (n+1) 38 [.tup (row.map itD),.int c] fun d=>∃ ones others:List It,d = .tup [.tup (ones.map itD),.tup (others.map itD)]∧(∀ p,p∈row↔un ones others p)∧ones.length≤30∧others.length≤30:=by
 have ss:=s64
 refine wRun_def d__law_dealt rfl rfl rfl ?_;simp only [d__law_dealt,init,SI,Nat.reduceAdd,Nat.reduceSub]
 simp only [List.length_nil,↓WS,ite_true,ite_false,Bool.false_eq_true,decide_eq_true_eq,↓reduceIte]
 refine ⟨by decide,by decide,?_⟩
 refine wFor_map (g:=itD) (fun rest δ=>∃ (c':Int) (ones others:List It) (s4 s5:Sl),δ = [.val (.tup (row.map itD)),.val (.int c'),.own (ones.map itD),.own (others.map itD),s4,s5]∧(∀ p,p∈row↔un ones others p∨p∈rest)∧ones.length+rest.length≤30∧others.length+rest.length≤30) ?_ ?_ _ _ ⟨c,[],[],_,_,rfl,fun p=>by simp [un],by simpa using hl,by simpa using hl⟩
 · rintro q rest δ ⟨c',ones,others,s4,s5,rfl,hm,h1,h2⟩
   rw [List.length_cons] at h1 h2
   have a1:=Int.emod_nonneg c' (show (5:Int)≠0 by decide)
   have a2:=Int.emod_lt_of_pos c' (show (0:Int) < 5 by decide)
   simp only [List.length_map,↓wBlt_dvm,↓WS,ite_true,ite_false,Bool.false_eq_true,decide_eq_true_eq,↓reduceIte]
   refine ⟨⟨by decide,by decide⟩,?_⟩
   have fin:∀ (o1 o2:List It),(∀ p,un o1 o2 p↔un ones others p∨p = q)→o1.length≤ones.length+1→o2.length≤others.length+1→∃ (c'':Int) (ones others:List It) (s4 s5:Sl),([.val (.tup (row.map itD)),.val (.int (c' / 5)),.own (o1.map itD),.own (o2.map itD),.val (itD q),.val (.int (c' % 5))]:PP.Loc) = [.val (.tup (row.map itD)),.val (.int c''),.own (ones.map itD),.own (others.map itD),s4,s5]∧(∀ p,p∈row↔un ones others p∨p∈rest)∧ones.length+rest.length≤30∧others.length+rest.length≤30:=fun o1 o2 hu b1 b2=>⟨_,o1,o2,_,_,rfl,fun p=>by rw [hm p,hu p,List.mem_cons,or_assoc],by omega,by omega⟩
   have l1:(ones++[q]).map itD = ones.map itD++[itD q]:=by rw [List.map_append];rfl
   have l2:(others++[q]).map itD = others.map itD++[itD q]:=by rw [List.map_append];rfl
   have fA:=fin (ones++[q]) others (fun p=>by simp only [un,List.mem_append,List.mem_singleton];exact or_right_comm) (by simp) (by omega)
   have fB:=fin ones (others++[q]) (fun p=>by simp only [un,List.mem_append,List.mem_singleton];exact or_assoc.symm) (by omega) (by simp)
   have fC:=fin (ones++[q]) (others++[q]) (fun p=>by simp only [un,List.mem_append,List.mem_singleton];rw [or_or_or_comm,or_self]) (by simp) (by simp)
   rw [l1] at fA fC
   rw [l2] at fB fC
   refine iteI (fun z1=>⟨by omega,?_⟩) fun z1=>iteI (fun z2=>⟨by omega,?_⟩) fun z2=>?_
   · rw [if_neg (by omega)]
     exact fA
   · rw [if_pos (by omega)]
     exact ⟨by omega,fC⟩
   · rw [if_pos (by omega)]
     exact ⟨by omega,fB⟩
 · rintro δ ⟨c',ones,others,s4,s5,rfl,hm,h1,h2⟩
   simp only [List.length_cons,List.length_nil,↓WS,ite_true,ite_false,Bool.false_eq_true,decide_eq_true_eq,↓reduceIte]
   exact ⟨by decide,ones,others,rfl,fun p=>by rw [hm p];simp,by simpa using h1,by simpa using h2⟩
end P1
end
section
namespace P1
open PySem L2 PP
def fine (ps:List It):Prop:=∀ p∈ps,dep (enc p.2)≤17
theorem rp_dep {A:F} (h:rp A):dep (enc A)≤17:=by
 have:=dep_encH A
 have:=h.1
 have:=h.2
 omega
def fineT:T→Prop
 | .close=>True
 | .rule b x y t1 t2=>dep (enc (.bi b x y))≤17∧fineT t1∧fineT t2
theorem okP_fine:∀ {t:T},okP t→fineT t
 | .close,_=>trivial
 | .rule b x y t1 t2,h=>⟨rp_dep h.1,okP_fine h.2.1,okP_fine h.2.2⟩
theorem fine_app {ps:List It} {q:It} (h:fine ps) (hq:dep (enc q.2)≤17):fine (mo (ps++[q])):=fun p hp=>by
 rcases List.mem_append.mp (mo_mem.mp hp) with z | z
 · exact h p z
 · rw [List.mem_singleton.mp z];exact hq
theorem dep_bi {b:B} {x y:F}:dep (enc (.bi b x y)) = max (dep (enc x)) (dep (enc y))+1:=by
 rw [show enc (.bi b x y) = .tup [.str b.s,enc x,enc y] from rfl]
 simp only [dep,depL,dep_str]
 omega
theorem dep_neg {x:F}:dep (enc (.neg x)) = dep (enc x)+1:=by
 rw [show enc (.neg x) = .tup [.str "not",enc x] from rfl]
 simp only [dep,depL,dep_str]
 omega
theorem dep_rl {L:Bool} {I:F} {ks:List D}:dep (rl L I ks) = max (dep (enc I)) (depL ks+1)+1:=by
 unfold rl
 simp only [dep,depL,dep_str]
 omega
theorem dep_rb {b:B} {x y:F} {ks:List D}:dep (rb b x y ks) = max (dep (enc (.bi b x y))) (depL ks+1)+1:=by
 unfold rb
 simp only [dep,depL,dep_str]
 omega
theorem dep_CL:dep CL = 1:=by unfold CL;simp only [dep,depL,dep_str];rfl
theorem depL1 {a:D}:depL [a] = dep a:=by simp only [depL];omega
theorem depL2 {a b:D}:depL [a,b] = max (dep a) (dep b):=by simp only [depL];omega
structure Dp (r:R) (h:Nat):Prop where
 I:dep (enc r.I)≤17+h
 f:dep r.f≤4 * h+15
 s:dep r.s≤4 * h+15
theorem shr_fine {ones others:List It} (h:fine ones):∀ A∈shr ones others,dep (enc A)≤17:=fun A hA=>by
 unfold shr at hA
 obtain ⟨p,hp,rfl⟩:=List.mem_map.mp hA
 exact h p (List.mem_filter.mp hp).1
theorem dp_close (ones others:List It) (h1:fine ones) (h2:fine others):Dp (pcl ones others) 1:=by
 have c:=dep_CL
 have dn:dep (enc F.no) = 1:=by decide +kernel
 have dy:dep (enc F.yes) = 1:=by decide +kernel
 unfold pcl
 split
 · exact ⟨by rw [dn];omega,by rw [c];omega,by rw [c];omega⟩
 · split
   · exact ⟨by rw [dy];omega,by rw [c];omega,by rw [c];omega⟩
   · split
     · rename_i A r e
       have:=shr_fine (others:=others) h1 A (by rw [e];exact List.mem_cons_self)
       exact ⟨by show dep (enc A)≤_;omega,by rw [c];omega,by rw [c];omega⟩
     · split
       · rename_i A r e
         have:=shr_fine (others:=ones) h2 A (by rw [e];exact List.mem_cons_self)
         exact ⟨by rw [dep_neg];omega,by rw [dep_rl,dep_neg,depL1,c];omega,by rw [dep_rl,dep_neg,depL1,c];omega⟩
       · exact ⟨by rw [dn];omega,by rw [c];omega,by rw [c];omega⟩
theorem ht_pos:∀ t:T,1≤ht t
 | .close=>Nat.le_refl _
 | .rule _ _ _ _ _=>by simp [ht]
theorem dp_all:∀ (t:T) (ones others:List It),fine ones→fine others→fineT t→Dp (prt ones others t) (ht t)
 | .close,ones,others,h1,h2,_=>by unfold prt;exact dp_close ones others h1 h2
 | .rule b x y t1 t2,ones,others,h1,h2,⟨o,o1,o2⟩=>by
   have ob:=o
   rw [dep_bi] at ob
   have ox:dep (enc (p1 b x).2)≤17:=by show dep (enc x)≤17;omega
   have oy:dep (enc (p2 b y).2)≤17:=by show dep (enc y)≤17;omega
   have q1:=ht_pos t1
   have q2:=ht_pos t2
   unfold prt
   simp only [ht]
   split
   · have g1:=dp_all t1 (mo (ones++[p1 b x])) others (fine_app h1 ox) h2 o1
     have g2:=dp_all t2 (mo (ones++[p2 b y])) others (fine_app h1 oy) h2 o2
     generalize prt (mo (ones++[p1 b x])) others t1 = r1 at g1
     generalize prt (mo (ones++[p2 b y])) others t2 = r2 at g2
     obtain ⟨a1,a2,a3⟩:=g1
     obtain ⟨b1,b2,b3⟩:=g2
     exact ⟨by rw [dep_bi];omega,by rw [dep_rl,dep_bi,depL1,dep_rb,depL2];omega,by rw [dep_rl,dep_bi,depL2];omega⟩
   · have g1:=dp_all t1 ones (mo (others++[p1 b x])) h1 (fine_app h2 ox) o1
     have g2:=dp_all t2 ones (mo (others++[p2 b y])) h1 (fine_app h2 oy) o2
     generalize prt ones (mo (others++[p1 b x])) t1 = r1 at g1
     generalize prt ones (mo (others++[p2 b y])) t2 = r2 at g2
     obtain ⟨a1,a2,a3⟩:=g1
     obtain ⟨b1,b2,b3⟩:=g2
     exact ⟨by rw [dep_bi];omega,by rw [dep_rl,dep_bi,depL2];omega,by rw [dep_rl,dep_bi,depL1,dep_rb,depL2];omega⟩
theorem eq_R (r:R) (h:Nat) (d:Dp r h) (hh:h≤30) {Q:Bool→Prop} (q:Q true):wCmp .eq r.d r.d Q:=by
 have e:dep r.d≤140:=by
  obtain ⟨a,b,c⟩:=d
  unfold R.d
  simp only [dep,depL]
  omega
 have e2:=eqD_refl r.d (by omega)
 unfold R.d at e e2 ⊢
 unfold dep at e
 exact eq_tups (by omega) (by omega) (by rw [e2];exact q)
theorem isT_R {r:R} {Q:D→Prop}:wBlt .isTup [r.d] Q↔Q (.bl true):=yr
def st (ns:List Int) (ws nms:List Str) (es:List El) (s4 s5 s6 s7 s8 s9 s10 s11 s12 s13:Sl):PP.Loc:=[.val (.lst (ns.map .int)),.val (.lst (ws.map .str)),.val (.lst (nms.map .str)),.own (es.map El.d),s4,s5,s6,s7,s8,s9,s10,s11,s12,s13]
def nds:List El→Nat
 | []=>0
 | e::es=>nd e.t+1+nds es
theorem nds_app:∀ (es:List El) (e:El),nds (es++[e]) = nds es+nd e.t+1
 | [],e=>by simp [nds]
 | x::es,e=>by simp [nds,nds_app es e];omega
def goods (es:List El):Prop:=∀ e∈es,Good e
theorem goods_app {es:List El} {e:El} (h:goods es) (g:Good e):goods (es++[e]):=fun x hx=>by
 rcases List.mem_append.mp hx with z | z
 · exact h x z
 · rw [List.mem_singleton.mp z];exact g
theorem r_while (ns:List Int) (ws nms:List Str) (hw:ws.length = 3) (hm:nms.length = 4) (s4 s8 s9 s10 s11 s12 s13:Sl) (Q:Out→Prop):∀ (f:Nat) (es:List El) (c:Int) (s6 s7:Sl),es.length < f→es.length≤100→es≠[]→goods es →
 (∀ (es':List El) (c:Int) (s6 s7:Sl),es'≠[]→es'.length≤es.length→goods es'→nds es'≤nds es→Q (.nx (st ns ws nms es' s4 (.val (.int c)) s6 s7 s8 s9 s10 s11 s12 s13))) →
 wWhile ⟨PP.run Gs gls 199,gls,hfs Gs⟩ (.and (.cmp .gt (.blt .len (.cons (.pk 3) .nil)) (.int 1)) (.cmp .gt (.bin .mod (.var 5) (.int 3)) (.int 0)))
 (.cons (.asg (.nm 5) (.bin .fdiv (.var 5) (.int 3)))
 (.cons (.asg (.nm 6) (.pop 3))
 (.cons (.asg (.nm 7) (.pop 3))
 (.cons (.append 3 (.call 37 (.cons (.var 7) (.cons (.var 6) (.cons (.call 25 (.cons (.var 5) .nil)) (.cons (.call 31 (.cons (.bin .fdiv (.var 5) (.bin .pow (.int 10) (.int 15))) (.cons (.var 1) (.cons (.var 2) .nil)))) .nil))))))
 .nil)))) f (st ns ws nms es s4 (.val (.int c)) s6 s7 s8 s9 s10 s11 s12 s13) Q
 | 0,es,c,s6,s7,h,_,_,_,_=>by omega
 | f+1,es,c,s6,s7,h,h100,h0,hg,q=>by
   have ss:=s64
   rw [wWhile_succ]
   have stop:Q (.nx (st ns ws nms es s4 (.val (.int c)) s6 s7 s8 s9 s10 s11 s12 s13)):=q es c s6 s7 h0 (Nat.le_refl _) hg (Nat.le_refl _)
   simp only [st,List.length_map,↓WS,ite_true,ite_false,Bool.false_eq_true,decide_eq_true_eq,↓reduceIte]
   unfold st at stop
   refine iteI (fun z=>⟨by decide,iteI (fun z2=>?_) fun z2=>stop⟩) fun z=>stop
   rcases List.eq_nil_or_concat es with e | ⟨L,e2,e⟩
   · rw [e] at z;simp at z
   rw [List.concat_eq_append] at e
   rcases List.eq_nil_or_concat L with e' | ⟨L',e1,e'⟩
   · rw [e,e'] at z;simp at z
   rw [List.concat_eq_append] at e'
   have g2:Good e2:=hg e2 (by rw [e];simp)
   have g1:Good e1:=hg e1 (by rw [e,e'];simp)
   have gL:goods L':=fun x hx=>hg x (by rw [e,e'];simp [hx])
   have e4:es.length = L'.length+2:=by rw [e,e'];simp
   have en:nds es = nds L'+nd e1.t+1+nd e2.t+1:=by rw [e,nds_app,e',nds_app]
   refine ⟨⟨by decide,by decide⟩,L.map El.d,e2.d,by rw [e];simp,L'.map El.d,e1.d,by rw [e'];simp,wRun_mono (r_mix 198 _) ?_⟩
   rintro _ ⟨m,rfl,_⟩
   (try simp only [↓WS,ite_true,ite_false,Bool.false_eq_true,decide_eq_true_eq,↓reduceIte])
   refine ⟨⟨by decide,by decide,by decide⟩,by decide +kernel,wRun_mono (r_word 198 _ ws nms hw hm) ?_⟩
   rintro _ ⟨w,ts,rfl⟩
   refine wRun_mono (r_both 196 e1 e2 g1 g2 m _ (rp_word w ts) (by decide)) ?_
   rintro _ ⟨e3,rfl,g3,n3⟩
   refine ⟨by rw [List.length_map];omega,?_⟩
   have r:=r_while ns ws nms hw hm s4 s8 s9 s10 s11 s12 s13 Q f (L'++[e3]) (c / 3) (.val e2.d) (.val e1.d) (by simp;omega) (by simp;omega) (by simp) (goods_app gL g3) (fun es' c' s6 s7 a1 a2 a3 a4=>q es' c' s6 s7 a1 (by simp at a2;omega) a3 (by rw [nds_app] at a4;omega))
   unfold st at r
   rw [List.map_append] at r
   exact r
theorem main (ns:List Int) (hns:ns.length≤63):PP.run Gs gls 200 41 [.lst (ns.map .int)] = some (.bl true):=by
 have ss:=s64
 apply wRun_out
 refine wRun_def d_law rfl rfl rfl ?_;simp only [d_law,init,SI,Nat.reduceAdd,Nat.reduceSub]
 simp only [↓WS,ite_true,ite_false,Bool.false_eq_true,decide_eq_true_eq,↓reduceIte]
 refine wRun_mono (r_words 196 ns) ?_
 rintro _ ⟨ws,rfl,hw⟩
 (try simp only [↓WS,ite_true,ite_false,Bool.false_eq_true,decide_eq_true_eq,↓reduceIte])
 refine wRun_mono (r_names 196 ns) ?_
 rintro _ ⟨nms,rfl,hm⟩
 simp only [List.length_nil,List.length_map,↓WS,ite_true,ite_false,Bool.false_eq_true,decide_eq_true_eq,↓reduceIte]
 generalize em:(if (if (20:Int) < (ns.length:Int) then 20 else (ns.length:Int)) > 7 then (if (20:Int) < (ns.length:Int) then 20 else (ns.length:Int)) else 7) = m
 have hmm:7≤m∧m≤20:=by
  rw [← em]
  split<;>split at *<;>omega
 refine ⟨Nat.zero_le _,⟨by decide,by decide,by omega,by omega⟩,?_⟩
 refine wFor_inv (fun xs δ=>∃ (es:List El) (s4 s5 s6 s7:Sl),δ = st ns ws nms es s4 s5 s6 s7 .no .no .no .no .no .no∧goods es∧es.length+xs.length≤16∧nds es+2 * xs.length≤32∧(es≠[]∨xs≠[])∧∀ x∈xs,∃ k:Int,x = .int k∧0≤k∧k≤1000) ?_ ?_ _ _ ⟨[],.no,.no,.no,.no,rfl,(fun e he=>by cases he),by rw [rng_len,List.length_nil];omega,by rw [rng_len];show 0+2 * (m - 4).toNat≤32;omega,.inr (fun z=>by have:=congrArg List.length z;rw [rng_len,List.length_nil] at this;omega),fun x hx=>?_⟩
 · rintro x xs δ ⟨es,s4,s5,s6,s7,rfl,hg,hl,hn,_,hx⟩
   obtain ⟨k,rfl,k0,k1⟩:=hx x List.mem_cons_self
   rw [List.length_cons] at hl hn
   unfold st
   simp only [↓WS,ite_true,ite_false,Bool.false_eq_true,decide_eq_true_eq,↓reduceIte]
   refine wRun_mono (r_cell 198 ns k k0 k1) ?_
   rintro _ ⟨c,rfl⟩
   (try simp only [↓WS,ite_true,ite_false,Bool.false_eq_true,decide_eq_true_eq,↓reduceIte])
   refine wRun_mono (r_mix 198 c) ?_
   rintro _ ⟨c2,rfl,_⟩
   (try simp only [↓WS,ite_true,ite_false,Bool.false_eq_true,decide_eq_true_eq,↓reduceIte])
   refine wRun_mono (r_leaf 196 c2 ws nms hw hm) ?_
   rintro _ ⟨e,rfl,ge,et⟩
   refine ⟨by rw [List.length_map];omega,?_⟩
   rw [show es.map El.d++[e.d] = (es++[e]).map El.d by rw [List.map_append];rfl]
   exact r_while ns ws nms hw hm (.val (.int k)) .no .no .no .no .no .no _ 1000 (es++[e]) c2 s6 s7 (by simp;omega) (by simp;omega) (by simp) (goods_app hg ge) (fun es' c' s6 s7 a1 a2 a3 a4=>thenS_nx.mpr (wSs_nil.mpr (loopS_nx.mpr ⟨es',_,_,s6,s7,rfl,a3,by simp at a2;omega,by rw [nds_app,et] at a4;simp only [nd] at a4;omega,.inl a1,fun x h=>hx x (List.mem_cons_of_mem _ h)⟩)))
 · rintro δ ⟨es,s4,s5,s6,s7,rfl,hg,hl,hn,h0,_⟩
   have h0:es≠[]:=h0.elim id fun z=>absurd rfl z
   rcases List.eq_nil_or_concat es with e | ⟨L,e,e'⟩
   · exact absurd e h0
   rw [List.concat_eq_append] at e'
   have ge:Good e:=hg e (by rw [e'];simp)
   have nn:nd e.t≤1000:=by rw [e',nds_app] at hn;omega
   rw [e']
   unfold st
   simp only [↓WS,ite_true,ite_false,Bool.false_eq_true,decide_eq_true_eq,↓reduceIte]
   rw [List.map_append]
   refine ⟨e.d,last_at,?_⟩
   obtain ⟨row,t⟩:=e
   unfold El.d
   simp only [↓WS,ite_true,ite_false,Bool.false_eq_true,decide_eq_true_eq,↓reduceIte]
   refine wRun_mono (r_cell 198 ns 3 (by decide) (by decide)) ?_
   rintro _ ⟨c,rfl⟩
   (try simp only [↓WS,ite_true,ite_false,Bool.false_eq_true,decide_eq_true_eq,↓reduceIte])
   refine wRun_mono (r_mix 198 c) ?_
   rintro _ ⟨c2,rfl,_⟩
   (try simp only [↓WS,ite_true,ite_false,Bool.false_eq_true,decide_eq_true_eq,↓reduceIte])
   refine wRun_mono (r_dealt 198 row c2 ge.len) ?_
   rintro _ ⟨ones,others,rfl,hu,l1,l2⟩
   have r1:rowp ones:=fun p hp=>ge.row p ((hu p).mpr (.inl hp))
   have r2:rowp others:=fun p hp=>ge.row p ((hu p).mpr (.inr hp))
   have pk:prf (un ones others) t:=prf_mono (fun p hp=>(hu p).mp hp) ge.prf
   have hh:ht t≤30:=ge.high
   have ll:(mo (ones++others)).length≤30:=Nat.le_trans (nodup_le (mo_nodup (r1.low.app r2.low)) fun p hp=>(hu p).mpr (List.mem_append.mp (mo_mem.mp hp))) ge.len
   have w1:=r_parted t ones others r1.low r2.low ge.tr.T hh nn l1 l2 ll pk
   have w2:=r_due t ones others 199 r1.low r2.low ge.tr.T (by omega) (by omega) (by omega) pk
   have dp:=dp_all t ones others (fun p hp=>rp_dep (r1 p hp)) (fun p hp=>rp_dep (r2 p hp)) (okP_fine ge.tr)
   simp only [↓wRun_eq w1,↓wRun_eq w2,↓isT_R,↓WS,ite_true,ite_false,Bool.false_eq_true,decide_eq_true_eq,↓reduceIte]
   exact eq_R _ _ dp hh rfl
 · obtain ⟨i,hi,rfl⟩:=rng_mem hx
   exact ⟨_,rfl,by omega,by omega⟩
end P1
end
section
namespace P1
open PySem L2 PP
theorem ck_inside:ckSs ⟨d_inside.ps++d_inside.loc,defScope (top 7),cfOf Gd,gns⟩ d_inside.body (defBody (top 7)) = true:=by decide +kernel
theorem sc_inside:FnScope (d_inside.ps++d_inside.loc) d_inside.ps (defScope (top 7)):=⟨rfl,rfl,rfl,by decide +kernel,rfl,by decide +kernel,by decide +kernel⟩
theorem ck_sorted_row:ckSs ⟨d_sorted_row.ps++d_sorted_row.loc,defScope (top 17),cfOf Gd,gns⟩ d_sorted_row.body (defBody (top 17)) = true:=by decide +kernel
theorem sc_sorted_row:FnScope (d_sorted_row.ps++d_sorted_row.loc) d_sorted_row.ps (defScope (top 17)):=⟨rfl,rfl,rfl,by decide +kernel,rfl,by decide +kernel,by decide +kernel⟩
theorem ck_more:ckSs ⟨d_more.ps++d_more.loc,defScope (top 18),cfOf Gd,gns⟩ d_more.body (defBody (top 18)) = true:=by decide +kernel
theorem sc_more:FnScope (d_more.ps++d_more.loc) d_more.ps (defScope (top 18)):=⟨rfl,rfl,rfl,by decide +kernel,rfl,by decide +kernel,by decide +kernel⟩
theorem ck_closes:ckSs ⟨d_closes.ps++d_closes.loc,defScope (top 19),cfOf Gd,gns⟩ d_closes.body (defBody (top 19)) = true:=by decide +kernel
theorem sc_closes:FnScope (d_closes.ps++d_closes.loc) d_closes.ps (defScope (top 19)):=⟨rfl,rfl,rfl,by decide +kernel,rfl,by decide +kernel,by decide +kernel⟩
theorem ck_other_side:ckSs ⟨d_other_side.ps++d_other_side.loc,defScope (top 21),cfOf Gd,gns⟩ d_other_side.body (defBody (top 21)) = true:=by decide +kernel
theorem sc_other_side:FnScope (d_other_side.ps++d_other_side.loc) d_other_side.ps (defScope (top 21)):=⟨rfl,rfl,rfl,by decide +kernel,rfl,by decide +kernel,by decide +kernel⟩
theorem ck_signed_within:ckSs ⟨d_signed_within.ps++d_signed_within.loc,defScope (top 22),cfOf Gd,gns⟩ d_signed_within.body (defBody (top 22)) = true:=by decide +kernel
theorem sc_signed_within:FnScope (d_signed_within.ps++d_signed_within.loc) d_signed_within.ps (defScope (top 22)):=⟨rfl,rfl,rfl,by decide +kernel,rfl,by decide +kernel,by decide +kernel⟩
theorem ck_parts:ckSs ⟨d_parts.ps++d_parts.loc,defScope (top 23),cfOf Gd,gns⟩ d_parts.body (defBody (top 23)) = true:=by decide +kernel
theorem sc_parts:FnScope (d_parts.ps++d_parts.loc) d_parts.ps (defScope (top 23)):=⟨rfl,rfl,rfl,by decide +kernel,rfl,by decide +kernel,by decide +kernel⟩
theorem ck_is_own:ckSs ⟨d_is_own.ps++d_is_own.loc,defScope (top 24),cfOf Gd,gns⟩ d_is_own.body (defBody (top 24)) = true:=by decide +kernel
theorem sc_is_own:FnScope (d_is_own.ps++d_is_own.loc) d_is_own.ps (defScope (top 24)):=⟨rfl,rfl,rfl,by decide +kernel,rfl,by decide +kernel,by decide +kernel⟩
theorem ck_kids_of:ckSs ⟨d_kids_of.ps++d_kids_of.loc,defScope (top 27),cfOf Gd,gns⟩ d_kids_of.body (defBody (top 27)) = true:=by decide +kernel
theorem sc_kids_of:FnScope (d_kids_of.ps++d_kids_of.loc) d_kids_of.ps (defScope (top 27)):=⟨rfl,rfl,rfl,by decide +kernel,rfl,by decide +kernel,by decide +kernel⟩
theorem ck_with_kids:ckSs ⟨d_with_kids.ps++d_with_kids.loc,defScope (top 28),cfOf Gd,gns⟩ d_with_kids.body (defBody (top 28)) = true:=by decide +kernel
theorem sc_with_kids:FnScope (d_with_kids.ps++d_with_kids.loc) d_with_kids.ps (defScope (top 28)):=⟨rfl,rfl,rfl,by decide +kernel,rfl,by decide +kernel,by decide +kernel⟩
theorem ck_added_above:ckSs ⟨d_added_above.ps++d_added_above.loc,defScope (top 29),cfOf Gd,gns⟩ d_added_above.body (defBody (top 29)) = true:=by decide +kernel
theorem sc_added_above:FnScope (d_added_above.ps++d_added_above.loc) d_added_above.ps (defScope (top 29)):=⟨rfl,rfl,rfl,by decide +kernel,rfl,by decide +kernel,by decide +kernel⟩
theorem ck_rows_above:ckSs ⟨d_rows_above.ps++d_rows_above.loc,defScope (top 30),cfOf Gd,gns⟩ d_rows_above.body (defBody (top 30)) = true:=by decide +kernel
theorem sc_rows_above:FnScope (d_rows_above.ps++d_rows_above.loc) d_rows_above.ps (defScope (top 30)):=⟨rfl,rfl,rfl,by decide +kernel,rfl,by decide +kernel,by decide +kernel⟩
theorem ck_stands_at:ckSs ⟨d_stands_at.ps++d_stands_at.loc,defScope (top 31),cfOf Gd,gns⟩ d_stands_at.body (defBody (top 31)) = true:=by decide +kernel
theorem sc_stands_at:FnScope (d_stands_at.ps++d_stands_at.loc) d_stands_at.ps (defScope (top 31)):=⟨rfl,rfl,rfl,by decide +kernel,rfl,by decide +kernel,by decide +kernel⟩
theorem ck_fits:ckSs ⟨d_fits.ps++d_fits.loc,defScope (top 32),cfOf Gd,gns⟩ d_fits.body (defBody (top 32)) = true:=by decide +kernel
theorem sc_fits:FnScope (d_fits.ps++d_fits.loc) d_fits.ps (defScope (top 32)):=⟨rfl,rfl,rfl,by decide +kernel,rfl,by decide +kernel,by decide +kernel⟩
theorem ck_trees_within:ckSs ⟨d_trees_within.ps++d_trees_within.loc,defScope (top 33),cfOf Gd,gns⟩ d_trees_within.body (defBody (top 33)) = true:=by decide +kernel
theorem sc_trees_within:FnScope (d_trees_within.ps++d_trees_within.loc) d_trees_within.ps (defScope (top 33)):=⟨rfl,rfl,rfl,by decide +kernel,rfl,by decide +kernel,by decide +kernel⟩
theorem ck_cuts_within:ckSs ⟨d_cuts_within.ps++d_cuts_within.loc,defScope (top 34),cfOf Gd,gns⟩ d_cuts_within.body (defBody (top 34)) = true:=by decide +kernel
theorem sc_cuts_within:FnScope (d_cuts_within.ps++d_cuts_within.loc) d_cuts_within.ps (defScope (top 34)):=⟨rfl,rfl,rfl,by decide +kernel,rfl,by decide +kernel,by decide +kernel⟩
theorem ck_cuts:ckSs ⟨d_cuts.ps++d_cuts.loc,defScope (top 35),cfOf Gd,gns⟩ d_cuts.body (defBody (top 35)) = true:=by decide +kernel
theorem sc_cuts:FnScope (d_cuts.ps++d_cuts.loc) d_cuts.ps (defScope (top 35)):=⟨rfl,rfl,rfl,by decide +kernel,rfl,by decide +kernel,by decide +kernel⟩
theorem ck_rules_of:ckSs ⟨d_rules_of.ps++d_rules_of.loc,defScope (top 37),cfOf Gd,gns⟩ d_rules_of.body (defBody (top 37)) = true:=by decide +kernel
theorem sc_rules_of:FnScope (d_rules_of.ps++d_rules_of.loc) d_rules_of.ps (defScope (top 37)):=⟨rfl,rfl,rfl,by decide +kernel,rfl,by decide +kernel,by decide +kernel⟩
theorem ck_shared_with:ckSs ⟨d_shared_with.ps++d_shared_with.loc,defScope (top 38),cfOf Gd,gns⟩ d_shared_with.body (defBody (top 38)) = true:=by decide +kernel
theorem sc_shared_with:FnScope (d_shared_with.ps++d_shared_with.loc) d_shared_with.ps (defScope (top 38)):=⟨rfl,rfl,rfl,by decide +kernel,rfl,by decide +kernel,by decide +kernel⟩
theorem ck_parted_close:ckSs ⟨d_parted_close.ps++d_parted_close.loc,defScope (top 39),cfOf Gd,gns⟩ d_parted_close.body (defBody (top 39)) = true:=by decide +kernel
theorem sc_parted_close:FnScope (d_parted_close.ps++d_parted_close.loc) d_parted_close.ps (defScope (top 39)):=⟨rfl,rfl,rfl,by decide +kernel,rfl,by decide +kernel,by decide +kernel⟩
theorem ck_of_two_kids:ckSs ⟨d_of_two_kids.ps++d_of_two_kids.loc,defScope (top 40),cfOf Gd,gns⟩ d_of_two_kids.body (defBody (top 40)) = true:=by decide +kernel
theorem sc_of_two_kids:FnScope (d_of_two_kids.ps++d_of_two_kids.loc) d_of_two_kids.ps (defScope (top 40)):=⟨rfl,rfl,rfl,by decide +kernel,rfl,by decide +kernel,by decide +kernel⟩
theorem ck_parted_tree:ckSs ⟨d_parted_tree.ps++d_parted_tree.loc,defScope (top 42),cfOf Gd,gns⟩ d_parted_tree.body (defBody (top 42)) = true:=by decide +kernel
theorem sc_parted_tree:FnScope (d_parted_tree.ps++d_parted_tree.loc) d_parted_tree.ps (defScope (top 42)):=⟨rfl,rfl,rfl,by decide +kernel,rfl,by decide +kernel,by decide +kernel⟩
theorem ck_parted:ckSs ⟨d_parted.ps++d_parted.loc,defScope (top 43),cfOf Gd,gns⟩ d_parted.body (defBody (top 43)) = true:=by decide +kernel
theorem sc_parted:FnScope (d_parted.ps++d_parted.loc) d_parted.ps (defScope (top 43)):=⟨rfl,rfl,rfl,by decide +kernel,rfl,by decide +kernel,by decide +kernel⟩
theorem ck__law_once:ckSs ⟨d__law_once.ps++d__law_once.loc,defScope (top 45),cfOf Gd,gns⟩ d__law_once.body (defBody (top 45)) = true:=by decide +kernel
theorem sc__law_once:FnScope (d__law_once.ps++d__law_once.loc) d__law_once.ps (defScope (top 45)):=⟨rfl,rfl,rfl,by decide +kernel,rfl,by decide +kernel,by decide +kernel⟩
theorem ck__law_cell:ckSs ⟨d__law_cell.ps++d__law_cell.loc,defScope (top 46),cfOf Gd,gns⟩ d__law_cell.body (defBody (top 46)) = true:=by decide +kernel
theorem sc__law_cell:FnScope (d__law_cell.ps++d__law_cell.loc) d__law_cell.ps (defScope (top 46)):=⟨rfl,rfl,rfl,by decide +kernel,rfl,by decide +kernel,by decide +kernel⟩
theorem ck__law_mix:ckSs ⟨d__law_mix.ps++d__law_mix.loc,defScope (top 47),cfOf Gd,gns⟩ d__law_mix.body (defBody (top 47)) = true:=by decide +kernel
theorem sc__law_mix:FnScope (d__law_mix.ps++d__law_mix.loc) d__law_mix.ps (defScope (top 47)):=⟨rfl,rfl,rfl,by decide +kernel,rfl,by decide +kernel,by decide +kernel⟩
theorem ck__law_at:ckSs ⟨d__law_at.ps++d__law_at.loc,defScope (top 48),cfOf Gd,gns⟩ d__law_at.body (defBody (top 48)) = true:=by decide +kernel
theorem sc__law_at:FnScope (d__law_at.ps++d__law_at.loc) d__law_at.ps (defScope (top 48)):=⟨rfl,rfl,rfl,by decide +kernel,rfl,by decide +kernel,by decide +kernel⟩
theorem ck__law_texts:ckSs ⟨d__law_texts.ps++d__law_texts.loc,defScope (top 49),cfOf Gd,gns⟩ d__law_texts.body (defBody (top 49)) = true:=by decide +kernel
theorem sc__law_texts:FnScope (d__law_texts.ps++d__law_texts.loc) d__law_texts.ps (defScope (top 49)):=⟨rfl,rfl,rfl,by decide +kernel,rfl,by decide +kernel,by decide +kernel⟩
theorem ck__law_words:ckSs ⟨d__law_words.ps++d__law_words.loc,defScope (top 50),cfOf Gd,gns⟩ d__law_words.body (defBody (top 50)) = true:=by decide +kernel
theorem sc__law_words:FnScope (d__law_words.ps++d__law_words.loc) d__law_words.ps (defScope (top 50)):=⟨rfl,rfl,rfl,by decide +kernel,rfl,by decide +kernel,by decide +kernel⟩
theorem ck__law_names_drawn:ckSs ⟨d__law_names_drawn.ps++d__law_names_drawn.loc,defScope (top 51),cfOf Gd,gns⟩ d__law_names_drawn.body (defBody (top 51)) = true:=by decide +kernel
theorem sc__law_names_drawn:FnScope (d__law_names_drawn.ps++d__law_names_drawn.loc) d__law_names_drawn.ps (defScope (top 51)):=⟨rfl,rfl,rfl,by decide +kernel,rfl,by decide +kernel,by decide +kernel⟩
theorem ck__law_size:ckSs ⟨d__law_size.ps++d__law_size.loc,defScope (top 54),cfOf Gd,gns⟩ d__law_size.body (defBody (top 54)) = true:=by decide +kernel
theorem sc__law_size:FnScope (d__law_size.ps++d__law_size.loc) d__law_size.ps (defScope (top 54)):=⟨rfl,rfl,rfl,by decide +kernel,rfl,by decide +kernel,by decide +kernel⟩
theorem ck__law_word:ckSs ⟨d__law_word.ps++d__law_word.loc,defScope (top 56),cfOf Gd,gns⟩ d__law_word.body (defBody (top 56)) = true:=by decide +kernel
theorem sc__law_word:FnScope (d__law_word.ps++d__law_word.loc) d__law_word.ps (defScope (top 56)):=⟨rfl,rfl,rfl,by decide +kernel,rfl,by decide +kernel,by decide +kernel⟩
theorem ck__law_more:ckSs ⟨d__law_more.ps++d__law_more.loc,defScope (top 57),cfOf Gd,gns⟩ d__law_more.body (defBody (top 57)) = true:=by decide +kernel
theorem sc__law_more:FnScope (d__law_more.ps++d__law_more.loc) d__law_more.ps (defScope (top 57)):=⟨rfl,rfl,rfl,by decide +kernel,rfl,by decide +kernel,by decide +kernel⟩
theorem ck__law_closes:ckSs ⟨d__law_closes.ps++d__law_closes.loc,defScope (top 58),cfOf Gd,gns⟩ d__law_closes.body (defBody (top 58)) = true:=by decide +kernel
theorem sc__law_closes:FnScope (d__law_closes.ps++d__law_closes.loc) d__law_closes.ps (defScope (top 58)):=⟨rfl,rfl,rfl,by decide +kernel,rfl,by decide +kernel,by decide +kernel⟩
theorem ck__law_branches:ckSs ⟨d__law_branches.ps++d__law_branches.loc,defScope (top 59),cfOf Gd,gns⟩ d__law_branches.body (defBody (top 59)) = true:=by decide +kernel
theorem sc__law_branches:FnScope (d__law_branches.ps++d__law_branches.loc) d__law_branches.ps (defScope (top 59)):=⟨rfl,rfl,rfl,by decide +kernel,rfl,by decide +kernel,by decide +kernel⟩
theorem ck__law_leaf:ckSs ⟨d__law_leaf.ps++d__law_leaf.loc,defScope (top 60),cfOf Gd,gns⟩ d__law_leaf.body (defBody (top 60)) = true:=by decide +kernel
theorem sc__law_leaf:FnScope (d__law_leaf.ps++d__law_leaf.loc) d__law_leaf.ps (defScope (top 60)):=⟨rfl,rfl,rfl,by decide +kernel,rfl,by decide +kernel,by decide +kernel⟩
theorem ck__law_on:ckSs ⟨d__law_on.ps++d__law_on.loc,defScope (top 61),cfOf Gd,gns⟩ d__law_on.body (defBody (top 61)) = true:=by decide +kernel
theorem sc__law_on:FnScope (d__law_on.ps++d__law_on.loc) d__law_on.ps (defScope (top 61)):=⟨rfl,rfl,rfl,by decide +kernel,rfl,by decide +kernel,by decide +kernel⟩
theorem ck__law_both:ckSs ⟨d__law_both.ps++d__law_both.loc,defScope (top 62),cfOf Gd,gns⟩ d__law_both.body (defBody (top 62)) = true:=by decide +kernel
theorem sc__law_both:FnScope (d__law_both.ps++d__law_both.loc) d__law_both.ps (defScope (top 62)):=⟨rfl,rfl,rfl,by decide +kernel,rfl,by decide +kernel,by decide +kernel⟩
theorem ck__law_dealt:ckSs ⟨d__law_dealt.ps++d__law_dealt.loc,defScope (top 63),cfOf Gd,gns⟩ d__law_dealt.body (defBody (top 63)) = true:=by decide +kernel
theorem sc__law_dealt:FnScope (d__law_dealt.ps++d__law_dealt.loc) d__law_dealt.ps (defScope (top 63)):=⟨rfl,rfl,rfl,by decide +kernel,rfl,by decide +kernel,by decide +kernel⟩
theorem ck__law_close_due:ckSs ⟨d__law_close_due.ps++d__law_close_due.loc,defScope (top 64),cfOf Gd,gns⟩ d__law_close_due.body (defBody (top 64)) = true:=by decide +kernel
theorem sc__law_close_due:FnScope (d__law_close_due.ps++d__law_close_due.loc) d__law_close_due.ps (defScope (top 64)):=⟨rfl,rfl,rfl,by decide +kernel,rfl,by decide +kernel,by decide +kernel⟩
theorem ck__law_due:ckSs ⟨d__law_due.ps++d__law_due.loc,defScope (top 65),cfOf Gd,gns⟩ d__law_due.body (defBody (top 65)) = true:=by decide +kernel
theorem sc__law_due:FnScope (d__law_due.ps++d__law_due.loc) d__law_due.ps (defScope (top 65)):=⟨rfl,rfl,rfl,by decide +kernel,rfl,by decide +kernel,by decide +kernel⟩
theorem ck_law:ckSs ⟨d_law.ps++d_law.loc,defScope (top 66),cfOf Gd,gns⟩ d_law.body (defBody (top 66)) = true:=by decide +kernel
theorem sc_law:FnScope (d_law.ps++d_law.loc) d_law.ps (defScope (top 66)):=⟨rfl,rfl,rfl,by decide +kernel,rfl,by decide +kernel,by decide +kernel⟩
theorem all_mk {l:PySem.W.OpenLaw} {w:World} {K:PySem.W.Frag} {h:Heap} {mg:Str→Option Value} {fa:Addr} (X:K.In h) (G:h.Ns mainGlobals mg) (hfa:mg "law" = some (.ref fa))
 {f0 f1 f2 f3 f4 f5 f6 f7 f8 f9 f10 f11 f12 f13 f14 f15 f16 f17 f18 f19 f20 f21 f22 f23 f24 f25 f26 f27 f28 f29 f30 f31 f32 f33 f34 f35 f36 f37 f38 f39 f40 f41:Addr} {od0 an0 od1 an1 od2 an2 od3 an3 od4 an4 od5 an5 od6 an6 od7 an7 od8 an8 od9 an9 od10 an10 od11 an11 od12 an12 od13 an13 od14 an14 od15 an15 od16 an16 od17 an17 od18 an18 od19 an19 od20 an20 od21 an21 od22 an22 od23 an23 od24 an24 od25 an25 od26 an26 od27 an27 od28 an28 od29 an29 od30 an30 od31 an31 od32 an32 od33 an33 od34 an34 od35 an35 od36 an36 od37 an37 od38 an38 od39 an39 od40 an40 od41 an41:Option Addr} {sl0 sl1 sl2 sl3 sl4 sl5 sl6 sl7 sl8 sl9 sl10 sl11 sl12 sl13 sl14 sl15 sl16 sl17 sl18 sl19 sl20 sl21 sl22 sl23 sl24 sl25 sl26 sl27 sl28 sl29 sl30 sl31 sl32 sl33 sl34 sl35 sl36 sl37 sl38 sl39 sl40 sl41:Array (Option Value)} {oc0 kV0 dc0 pm0 cd0 ct0 oc1 kV1 dc1 pm1 cd1 ct1 oc2 kV2 dc2 pm2 cd2 ct2 oc3 kV3 dc3 pm3 cd3 ct3 oc4 kV4 dc4 pm4 cd4 ct4 oc5 kV5 dc5 pm5 cd5 ct5 oc6 kV6 dc6 pm6 cd6 ct6 oc7 kV7 dc7 pm7 cd7 ct7 oc8 kV8 dc8 pm8 cd8 ct8 oc9 kV9 dc9 pm9 cd9 ct9 oc10 kV10 dc10 pm10 cd10 ct10 oc11 kV11 dc11 pm11 cd11 ct11 oc12 kV12 dc12 pm12 cd12 ct12 oc13 kV13 dc13 pm13 cd13 ct13 oc14 kV14 dc14 pm14 cd14 ct14 oc15 kV15 dc15 pm15 cd15 ct15 oc16 kV16 dc16 pm16 cd16 ct16 oc17 kV17 dc17 pm17 cd17 ct17 oc18 kV18 dc18 pm18 cd18 ct18 oc19 kV19 dc19 pm19 cd19 ct19 oc20 kV20 dc20 pm20 cd20 ct20 oc21 kV21 dc21 pm21 cd21 ct21 oc22 kV22 dc22 pm22 cd22 ct22 oc23 kV23 dc23 pm23 cd23 ct23 oc24 kV24 dc24 pm24 cd24 ct24 oc25 kV25 dc25 pm25 cd25 ct25 oc26 kV26 dc26 pm26 cd26 ct26 oc27 kV27 dc27 pm27 cd27 ct27 oc28 kV28 dc28 pm28 cd28 ct28 oc29 kV29 dc29 pm29 cd29 ct29 oc30 kV30 dc30 pm30 cd30 ct30 oc31 kV31 dc31 pm31 cd31 ct31 oc32 kV32 dc32 pm32 cd32 ct32 oc33 kV33 dc33 pm33 cd33 ct33 oc34 kV34 dc34 pm34 cd34 ct34 oc35 kV35 dc35 pm35 cd35 ct35 oc36 kV36 dc36 pm36 cd36 ct36 oc37 kV37 dc37 pm37 cd37 ct37 oc38 kV38 dc38 pm38 cd38 ct38 oc39 kV39 dc39 pm39 cd39 ct39 oc40 kV40 dc40 pm40 cd40 ct40 oc41 kV41 dc41 pm41 cd41 ct41:Value}
 (a0:PySem.W.nsIn K mainGlobals "inside" = some (some (.ref f0))) (l0:K.lookup f0 = some ⟨oc0,od0,.func (PySem.W.fnOf "inside" "inside" (defArgs (top 7)) (defBody (top 7)) (defScope (top 7)) .none kV0 dc0 pm0 an0 cd0 ct0),sl0⟩) (c0:PySem.W.codeIn K cd0 "inside" = true) (k0:PySem.W.keepIn K (.ref f0) = true)
 (a1:PySem.W.nsIn K mainGlobals "sorted_row" = some (some (.ref f1))) (l1:K.lookup f1 = some ⟨oc1,od1,.func (PySem.W.fnOf "sorted_row" "sorted_row" (defArgs (top 17)) (defBody (top 17)) (defScope (top 17)) .none kV1 dc1 pm1 an1 cd1 ct1),sl1⟩) (c1:PySem.W.codeIn K cd1 "sorted_row" = true) (k1:PySem.W.keepIn K (.ref f1) = true)
 (a2:PySem.W.nsIn K mainGlobals "more" = some (some (.ref f2))) (l2:K.lookup f2 = some ⟨oc2,od2,.func (PySem.W.fnOf "more" "more" (defArgs (top 18)) (defBody (top 18)) (defScope (top 18)) .none kV2 dc2 pm2 an2 cd2 ct2),sl2⟩) (c2:PySem.W.codeIn K cd2 "more" = true) (k2:PySem.W.keepIn K (.ref f2) = true)
 (a3:PySem.W.nsIn K mainGlobals "closes" = some (some (.ref f3))) (l3:K.lookup f3 = some ⟨oc3,od3,.func (PySem.W.fnOf "closes" "closes" (defArgs (top 19)) (defBody (top 19)) (defScope (top 19)) .none kV3 dc3 pm3 an3 cd3 ct3),sl3⟩) (c3:PySem.W.codeIn K cd3 "closes" = true) (k3:PySem.W.keepIn K (.ref f3) = true)
 (a4:PySem.W.nsIn K mainGlobals "other_side" = some (some (.ref f4))) (l4:K.lookup f4 = some ⟨oc4,od4,.func (PySem.W.fnOf "other_side" "other_side" (defArgs (top 21)) (defBody (top 21)) (defScope (top 21)) .none kV4 dc4 pm4 an4 cd4 ct4),sl4⟩) (c4:PySem.W.codeIn K cd4 "other_side" = true) (k4:PySem.W.keepIn K (.ref f4) = true)
 (a5:PySem.W.nsIn K mainGlobals "signed_within" = some (some (.ref f5))) (l5:K.lookup f5 = some ⟨oc5,od5,.func (PySem.W.fnOf "signed_within" "signed_within" (defArgs (top 22)) (defBody (top 22)) (defScope (top 22)) .none kV5 dc5 pm5 an5 cd5 ct5),sl5⟩) (c5:PySem.W.codeIn K cd5 "signed_within" = true) (k5:PySem.W.keepIn K (.ref f5) = true)
 (a6:PySem.W.nsIn K mainGlobals "parts" = some (some (.ref f6))) (l6:K.lookup f6 = some ⟨oc6,od6,.func (PySem.W.fnOf "parts" "parts" (defArgs (top 23)) (defBody (top 23)) (defScope (top 23)) .none kV6 dc6 pm6 an6 cd6 ct6),sl6⟩) (c6:PySem.W.codeIn K cd6 "parts" = true) (k6:PySem.W.keepIn K (.ref f6) = true)
 (a7:PySem.W.nsIn K mainGlobals "is_own" = some (some (.ref f7))) (l7:K.lookup f7 = some ⟨oc7,od7,.func (PySem.W.fnOf "is_own" "is_own" (defArgs (top 24)) (defBody (top 24)) (defScope (top 24)) .none kV7 dc7 pm7 an7 cd7 ct7),sl7⟩) (c7:PySem.W.codeIn K cd7 "is_own" = true) (k7:PySem.W.keepIn K (.ref f7) = true)
 (a8:PySem.W.nsIn K mainGlobals "kids_of" = some (some (.ref f8))) (l8:K.lookup f8 = some ⟨oc8,od8,.func (PySem.W.fnOf "kids_of" "kids_of" (defArgs (top 27)) (defBody (top 27)) (defScope (top 27)) .none kV8 dc8 pm8 an8 cd8 ct8),sl8⟩) (c8:PySem.W.codeIn K cd8 "kids_of" = true) (k8:PySem.W.keepIn K (.ref f8) = true)
 (a9:PySem.W.nsIn K mainGlobals "with_kids" = some (some (.ref f9))) (l9:K.lookup f9 = some ⟨oc9,od9,.func (PySem.W.fnOf "with_kids" "with_kids" (defArgs (top 28)) (defBody (top 28)) (defScope (top 28)) .none kV9 dc9 pm9 an9 cd9 ct9),sl9⟩) (c9:PySem.W.codeIn K cd9 "with_kids" = true) (k9:PySem.W.keepIn K (.ref f9) = true)
 (a10:PySem.W.nsIn K mainGlobals "added_above" = some (some (.ref f10))) (l10:K.lookup f10 = some ⟨oc10,od10,.func (PySem.W.fnOf "added_above" "added_above" (defArgs (top 29)) (defBody (top 29)) (defScope (top 29)) .none kV10 dc10 pm10 an10 cd10 ct10),sl10⟩) (c10:PySem.W.codeIn K cd10 "added_above" = true) (k10:PySem.W.keepIn K (.ref f10) = true)
 (a11:PySem.W.nsIn K mainGlobals "rows_above" = some (some (.ref f11))) (l11:K.lookup f11 = some ⟨oc11,od11,.func (PySem.W.fnOf "rows_above" "rows_above" (defArgs (top 30)) (defBody (top 30)) (defScope (top 30)) .none kV11 dc11 pm11 an11 cd11 ct11),sl11⟩) (c11:PySem.W.codeIn K cd11 "rows_above" = true) (k11:PySem.W.keepIn K (.ref f11) = true)
 (a12:PySem.W.nsIn K mainGlobals "stands_at" = some (some (.ref f12))) (l12:K.lookup f12 = some ⟨oc12,od12,.func (PySem.W.fnOf "stands_at" "stands_at" (defArgs (top 31)) (defBody (top 31)) (defScope (top 31)) .none kV12 dc12 pm12 an12 cd12 ct12),sl12⟩) (c12:PySem.W.codeIn K cd12 "stands_at" = true) (k12:PySem.W.keepIn K (.ref f12) = true)
 (a13:PySem.W.nsIn K mainGlobals "fits" = some (some (.ref f13))) (l13:K.lookup f13 = some ⟨oc13,od13,.func (PySem.W.fnOf "fits" "fits" (defArgs (top 32)) (defBody (top 32)) (defScope (top 32)) .none kV13 dc13 pm13 an13 cd13 ct13),sl13⟩) (c13:PySem.W.codeIn K cd13 "fits" = true) (k13:PySem.W.keepIn K (.ref f13) = true)
 (a14:PySem.W.nsIn K mainGlobals "trees_within" = some (some (.ref f14))) (l14:K.lookup f14 = some ⟨oc14,od14,.func (PySem.W.fnOf "trees_within" "trees_within" (defArgs (top 33)) (defBody (top 33)) (defScope (top 33)) .none kV14 dc14 pm14 an14 cd14 ct14),sl14⟩) (c14:PySem.W.codeIn K cd14 "trees_within" = true) (k14:PySem.W.keepIn K (.ref f14) = true)
 (a15:PySem.W.nsIn K mainGlobals "cuts_within" = some (some (.ref f15))) (l15:K.lookup f15 = some ⟨oc15,od15,.func (PySem.W.fnOf "cuts_within" "cuts_within" (defArgs (top 34)) (defBody (top 34)) (defScope (top 34)) .none kV15 dc15 pm15 an15 cd15 ct15),sl15⟩) (c15:PySem.W.codeIn K cd15 "cuts_within" = true) (k15:PySem.W.keepIn K (.ref f15) = true)
 (a16:PySem.W.nsIn K mainGlobals "cuts" = some (some (.ref f16))) (l16:K.lookup f16 = some ⟨oc16,od16,.func (PySem.W.fnOf "cuts" "cuts" (defArgs (top 35)) (defBody (top 35)) (defScope (top 35)) .none kV16 dc16 pm16 an16 cd16 ct16),sl16⟩) (c16:PySem.W.codeIn K cd16 "cuts" = true) (k16:PySem.W.keepIn K (.ref f16) = true)
 (a17:PySem.W.nsIn K mainGlobals "rules_of" = some (some (.ref f17))) (l17:K.lookup f17 = some ⟨oc17,od17,.func (PySem.W.fnOf "rules_of" "rules_of" (defArgs (top 37)) (defBody (top 37)) (defScope (top 37)) .none kV17 dc17 pm17 an17 cd17 ct17),sl17⟩) (c17:PySem.W.codeIn K cd17 "rules_of" = true) (k17:PySem.W.keepIn K (.ref f17) = true)
 (a18:PySem.W.nsIn K mainGlobals "shared_with" = some (some (.ref f18))) (l18:K.lookup f18 = some ⟨oc18,od18,.func (PySem.W.fnOf "shared_with" "shared_with" (defArgs (top 38)) (defBody (top 38)) (defScope (top 38)) .none kV18 dc18 pm18 an18 cd18 ct18),sl18⟩) (c18:PySem.W.codeIn K cd18 "shared_with" = true) (k18:PySem.W.keepIn K (.ref f18) = true)
 (a19:PySem.W.nsIn K mainGlobals "parted_close" = some (some (.ref f19))) (l19:K.lookup f19 = some ⟨oc19,od19,.func (PySem.W.fnOf "parted_close" "parted_close" (defArgs (top 39)) (defBody (top 39)) (defScope (top 39)) .none kV19 dc19 pm19 an19 cd19 ct19),sl19⟩) (c19:PySem.W.codeIn K cd19 "parted_close" = true) (k19:PySem.W.keepIn K (.ref f19) = true)
 (a20:PySem.W.nsIn K mainGlobals "of_two_kids" = some (some (.ref f20))) (l20:K.lookup f20 = some ⟨oc20,od20,.func (PySem.W.fnOf "of_two_kids" "of_two_kids" (defArgs (top 40)) (defBody (top 40)) (defScope (top 40)) .none kV20 dc20 pm20 an20 cd20 ct20),sl20⟩) (c20:PySem.W.codeIn K cd20 "of_two_kids" = true) (k20:PySem.W.keepIn K (.ref f20) = true)
 (a21:PySem.W.nsIn K mainGlobals "parted_tree" = some (some (.ref f21))) (l21:K.lookup f21 = some ⟨oc21,od21,.func (PySem.W.fnOf "parted_tree" "parted_tree" (defArgs (top 42)) (defBody (top 42)) (defScope (top 42)) .none kV21 dc21 pm21 an21 cd21 ct21),sl21⟩) (c21:PySem.W.codeIn K cd21 "parted_tree" = true) (k21:PySem.W.keepIn K (.ref f21) = true)
 (a22:PySem.W.nsIn K mainGlobals "parted" = some (some (.ref f22))) (l22:K.lookup f22 = some ⟨oc22,od22,.func (PySem.W.fnOf "parted" "parted" (defArgs (top 43)) (defBody (top 43)) (defScope (top 43)) .none kV22 dc22 pm22 an22 cd22 ct22),sl22⟩) (c22:PySem.W.codeIn K cd22 "parted" = true) (k22:PySem.W.keepIn K (.ref f22) = true)
 (a23:PySem.W.nsIn K mainGlobals "_law_once" = some (some (.ref f23))) (l23:K.lookup f23 = some ⟨oc23,od23,.func (PySem.W.fnOf "_law_once" "_law_once" (defArgs (top 45)) (defBody (top 45)) (defScope (top 45)) .none kV23 dc23 pm23 an23 cd23 ct23),sl23⟩) (c23:PySem.W.codeIn K cd23 "_law_once" = true) (k23:PySem.W.keepIn K (.ref f23) = true)
 (a24:PySem.W.nsIn K mainGlobals "_law_cell" = some (some (.ref f24))) (l24:K.lookup f24 = some ⟨oc24,od24,.func (PySem.W.fnOf "_law_cell" "_law_cell" (defArgs (top 46)) (defBody (top 46)) (defScope (top 46)) .none kV24 dc24 pm24 an24 cd24 ct24),sl24⟩) (c24:PySem.W.codeIn K cd24 "_law_cell" = true) (k24:PySem.W.keepIn K (.ref f24) = true)
 (a25:PySem.W.nsIn K mainGlobals "_law_mix" = some (some (.ref f25))) (l25:K.lookup f25 = some ⟨oc25,od25,.func (PySem.W.fnOf "_law_mix" "_law_mix" (defArgs (top 47)) (defBody (top 47)) (defScope (top 47)) .none kV25 dc25 pm25 an25 cd25 ct25),sl25⟩) (c25:PySem.W.codeIn K cd25 "_law_mix" = true) (k25:PySem.W.keepIn K (.ref f25) = true)
 (a26:PySem.W.nsIn K mainGlobals "_law_at" = some (some (.ref f26))) (l26:K.lookup f26 = some ⟨oc26,od26,.func (PySem.W.fnOf "_law_at" "_law_at" (defArgs (top 48)) (defBody (top 48)) (defScope (top 48)) .none kV26 dc26 pm26 an26 cd26 ct26),sl26⟩) (c26:PySem.W.codeIn K cd26 "_law_at" = true) (k26:PySem.W.keepIn K (.ref f26) = true)
 (a27:PySem.W.nsIn K mainGlobals "_law_texts" = some (some (.ref f27))) (l27:K.lookup f27 = some ⟨oc27,od27,.func (PySem.W.fnOf "_law_texts" "_law_texts" (defArgs (top 49)) (defBody (top 49)) (defScope (top 49)) .none kV27 dc27 pm27 an27 cd27 ct27),sl27⟩) (c27:PySem.W.codeIn K cd27 "_law_texts" = true) (k27:PySem.W.keepIn K (.ref f27) = true)
 (a28:PySem.W.nsIn K mainGlobals "_law_words" = some (some (.ref f28))) (l28:K.lookup f28 = some ⟨oc28,od28,.func (PySem.W.fnOf "_law_words" "_law_words" (defArgs (top 50)) (defBody (top 50)) (defScope (top 50)) .none kV28 dc28 pm28 an28 cd28 ct28),sl28⟩) (c28:PySem.W.codeIn K cd28 "_law_words" = true) (k28:PySem.W.keepIn K (.ref f28) = true)
 (a29:PySem.W.nsIn K mainGlobals "_law_names_drawn" = some (some (.ref f29))) (l29:K.lookup f29 = some ⟨oc29,od29,.func (PySem.W.fnOf "_law_names_drawn" "_law_names_drawn" (defArgs (top 51)) (defBody (top 51)) (defScope (top 51)) .none kV29 dc29 pm29 an29 cd29 ct29),sl29⟩) (c29:PySem.W.codeIn K cd29 "_law_names_drawn" = true) (k29:PySem.W.keepIn K (.ref f29) = true)
 (a30:PySem.W.nsIn K mainGlobals "_law_size" = some (some (.ref f30))) (l30:K.lookup f30 = some ⟨oc30,od30,.func (PySem.W.fnOf "_law_size" "_law_size" (defArgs (top 54)) (defBody (top 54)) (defScope (top 54)) .none kV30 dc30 pm30 an30 cd30 ct30),sl30⟩) (c30:PySem.W.codeIn K cd30 "_law_size" = true) (k30:PySem.W.keepIn K (.ref f30) = true)
 (a31:PySem.W.nsIn K mainGlobals "_law_word" = some (some (.ref f31))) (l31:K.lookup f31 = some ⟨oc31,od31,.func (PySem.W.fnOf "_law_word" "_law_word" (defArgs (top 56)) (defBody (top 56)) (defScope (top 56)) .none kV31 dc31 pm31 an31 cd31 ct31),sl31⟩) (c31:PySem.W.codeIn K cd31 "_law_word" = true) (k31:PySem.W.keepIn K (.ref f31) = true)
 (a32:PySem.W.nsIn K mainGlobals "_law_more" = some (some (.ref f32))) (l32:K.lookup f32 = some ⟨oc32,od32,.func (PySem.W.fnOf "_law_more" "_law_more" (defArgs (top 57)) (defBody (top 57)) (defScope (top 57)) .none kV32 dc32 pm32 an32 cd32 ct32),sl32⟩) (c32:PySem.W.codeIn K cd32 "_law_more" = true) (k32:PySem.W.keepIn K (.ref f32) = true)
 (a33:PySem.W.nsIn K mainGlobals "_law_closes" = some (some (.ref f33))) (l33:K.lookup f33 = some ⟨oc33,od33,.func (PySem.W.fnOf "_law_closes" "_law_closes" (defArgs (top 58)) (defBody (top 58)) (defScope (top 58)) .none kV33 dc33 pm33 an33 cd33 ct33),sl33⟩) (c33:PySem.W.codeIn K cd33 "_law_closes" = true) (k33:PySem.W.keepIn K (.ref f33) = true)
 (a34:PySem.W.nsIn K mainGlobals "_law_branches" = some (some (.ref f34))) (l34:K.lookup f34 = some ⟨oc34,od34,.func (PySem.W.fnOf "_law_branches" "_law_branches" (defArgs (top 59)) (defBody (top 59)) (defScope (top 59)) .none kV34 dc34 pm34 an34 cd34 ct34),sl34⟩) (c34:PySem.W.codeIn K cd34 "_law_branches" = true) (k34:PySem.W.keepIn K (.ref f34) = true)
 (a35:PySem.W.nsIn K mainGlobals "_law_leaf" = some (some (.ref f35))) (l35:K.lookup f35 = some ⟨oc35,od35,.func (PySem.W.fnOf "_law_leaf" "_law_leaf" (defArgs (top 60)) (defBody (top 60)) (defScope (top 60)) .none kV35 dc35 pm35 an35 cd35 ct35),sl35⟩) (c35:PySem.W.codeIn K cd35 "_law_leaf" = true) (k35:PySem.W.keepIn K (.ref f35) = true)
 (a36:PySem.W.nsIn K mainGlobals "_law_on" = some (some (.ref f36))) (l36:K.lookup f36 = some ⟨oc36,od36,.func (PySem.W.fnOf "_law_on" "_law_on" (defArgs (top 61)) (defBody (top 61)) (defScope (top 61)) .none kV36 dc36 pm36 an36 cd36 ct36),sl36⟩) (c36:PySem.W.codeIn K cd36 "_law_on" = true) (k36:PySem.W.keepIn K (.ref f36) = true)
 (a37:PySem.W.nsIn K mainGlobals "_law_both" = some (some (.ref f37))) (l37:K.lookup f37 = some ⟨oc37,od37,.func (PySem.W.fnOf "_law_both" "_law_both" (defArgs (top 62)) (defBody (top 62)) (defScope (top 62)) .none kV37 dc37 pm37 an37 cd37 ct37),sl37⟩) (c37:PySem.W.codeIn K cd37 "_law_both" = true) (k37:PySem.W.keepIn K (.ref f37) = true)
 (a38:PySem.W.nsIn K mainGlobals "_law_dealt" = some (some (.ref f38))) (l38:K.lookup f38 = some ⟨oc38,od38,.func (PySem.W.fnOf "_law_dealt" "_law_dealt" (defArgs (top 63)) (defBody (top 63)) (defScope (top 63)) .none kV38 dc38 pm38 an38 cd38 ct38),sl38⟩) (c38:PySem.W.codeIn K cd38 "_law_dealt" = true) (k38:PySem.W.keepIn K (.ref f38) = true)
 (a39:PySem.W.nsIn K mainGlobals "_law_close_due" = some (some (.ref f39))) (l39:K.lookup f39 = some ⟨oc39,od39,.func (PySem.W.fnOf "_law_close_due" "_law_close_due" (defArgs (top 64)) (defBody (top 64)) (defScope (top 64)) .none kV39 dc39 pm39 an39 cd39 ct39),sl39⟩) (c39:PySem.W.codeIn K cd39 "_law_close_due" = true) (k39:PySem.W.keepIn K (.ref f39) = true)
 (a40:PySem.W.nsIn K mainGlobals "_law_due" = some (some (.ref f40))) (l40:K.lookup f40 = some ⟨oc40,od40,.func (PySem.W.fnOf "_law_due" "_law_due" (defArgs (top 65)) (defBody (top 65)) (defScope (top 65)) .none kV40 dc40 pm40 an40 cd40 ct40),sl40⟩) (c40:PySem.W.codeIn K cd40 "_law_due" = true) (k40:PySem.W.keepIn K (.ref f40) = true)
 (a41:PySem.W.nsIn K mainGlobals "law" = some (some (.ref f41))) (l41:K.lookup f41 = some ⟨oc41,od41,.func (PySem.W.fnOf "law" "law" (defArgs (top 66)) (defBody (top 66)) (defScope (top 66)) .none kV41 dc41 pm41 an41 cd41 ct41),sl41⟩) (c41:PySem.W.codeIn K cd41 "law" = true) (k41:PySem.W.keepIn K (.ref f41) = true)
 (z0:PySem.W.nsIn K mainGlobals "len" = some none)
 (z1:PySem.W.nsIn K mainGlobals "min" = some none)
 (z2:PySem.W.nsIn K mainGlobals "max" = some none)
 (z3:PySem.W.nsIn K mainGlobals "int" = some none)
 (z4:PySem.W.nsIn K mainGlobals "str" = some none)
 (z5:PySem.W.nsIn K mainGlobals "tuple" = some none)
 (z6:PySem.W.nsIn K mainGlobals "list" = some none)
 (z7:PySem.W.nsIn K mainGlobals "dict" = some none)
 (z8:PySem.W.nsIn K mainGlobals "sum" = some none)
 (z9:PySem.W.nsIn K mainGlobals "isinstance" = some none)
 (z10:PySem.W.nsIn K mainGlobals "bool" = some none)
 (z11:PySem.W.nsIn K mainGlobals "range" = some none)
 (z12:PySem.W.nsIn K mainGlobals "sorted" = some none)
 (z13:PySem.W.nsIn K mainGlobals "set" = some none)
 (z14:PySem.W.nsIn K mainGlobals "zip" = some none)
 (z15:PySem.W.nsIn K mainGlobals "any" = some none)
 (z16:PySem.W.nsIn K mainGlobals "divmod" = some none)
 {t0_0:Tok}
 {t0_1:Tok}
 {t0_2:Tok}
 {g0:Addr} {gD0:Option Addr} {gS0:Array (Option Value)} {gn0:Nat} (ga0:PySem.W.nsIn K mainGlobals "LEAVES" = some (some (.ref g0))) (gb0:K.lookup g0 = some ⟨.type "tuple",gD0,.seq #[.str "yes" t0_0,.str "no" t0_1,.str "word" t0_2] gn0,gS0⟩)
 {t1_0:Tok}
 {t1_1:Tok}
 {g1:Addr} {gD1:Option Addr} {gS1:Array (Option Value)} {gn1:Nat} (ga1:PySem.W.nsIn K mainGlobals "BINDERS" = some (some (.ref g1))) (gb1:K.lookup g1 = some ⟨.type "tuple",gD1,.seq #[.str "all" t1_0,.str "some" t1_1] gn1,gS1⟩)
 {g2x0:Addr} {gD2x0:Option Addr} {gS2x0:Array (Option Value)} {gn2x0:Nat} {t2x0_0 t2x0_1:Tok}
 {g2x1:Addr} {gD2x1:Option Addr} {gS2x1:Array (Option Value)} {gn2x1:Nat} {t2x1_0 t2x1_1:Tok}
 {g2x2:Addr} {gD2x2:Option Addr} {gS2x2:Array (Option Value)} {gn2x2:Nat} {t2x2_0 t2x2_1:Tok}
 {g2:Addr} {gD2:Option Addr} {gS2:Array (Option Value)} {gn2:Nat} (ga2:PySem.W.nsIn K mainGlobals "FORKS" = some (some (.ref g2))) (gb2:K.lookup g2 = some ⟨.type "tuple",gD2,.seq #[.ref g2x0,.ref g2x1,.ref g2x2] gn2,gS2⟩)
 (gc2x0:K.lookup g2x0 = some ⟨.type "tuple",gD2x0,.seq #[.str "right" t2x0_0,.str "and" t2x0_1] gn2x0,gS2x0⟩)
 (gc2x1:K.lookup g2x1 = some ⟨.type "tuple",gD2x1,.seq #[.str "left" t2x1_0,.str "or" t2x1_1] gn2x1,gS2x1⟩)
 (gc2x2:K.lookup g2x2 = some ⟨.type "tuple",gD2x2,.seq #[.str "left" t2x2_0,.str "if" t2x2_1] gn2x2,gS2x2⟩)
 {g3x0:Addr} {gD3x0:Option Addr} {gS3x0:Array (Option Value)} {gn3x0:Nat} {t3x0_0 t3x0_1:Tok}
 {g3x1:Addr} {gD3x1:Option Addr} {gS3x1:Array (Option Value)} {gn3x1:Nat} {t3x1_0 t3x1_1:Tok}
 {g3:Addr} {gD3:Option Addr} {gS3:Array (Option Value)} {gn3:Nat} (ga3:PySem.W.nsIn K mainGlobals "OWN" = some (some (.ref g3))) (gb3:K.lookup g3 = some ⟨.type "tuple",gD3,.seq #[.ref g3x0,.ref g3x1] gn3,gS3⟩)
 (gc3x0:K.lookup g3x0 = some ⟨.type "tuple",gD3x0,.seq #[.str "right" t3x0_0,.str "all" t3x0_1] gn3x0,gS3x0⟩)
 (gc3x1:K.lookup g3x1 = some ⟨.type "tuple",gD3x1,.seq #[.str "left" t3x1_0,.str "some" t3x1_1] gn3x1,gS3x1⟩)
 {t4_0:Tok}
 {g4:Addr} {gD4:Option Addr} {gS4:Array (Option Value)} {gn4:Nat} (ga4:PySem.W.nsIn K mainGlobals "CLOSE" = some (some (.ref g4))) (gb4:K.lookup g4 = some ⟨.type "tuple",gD4,.seq #[.str "close" t4_0] gn4,gS4⟩)
 : ∃ (st:Stmt) (fdd:FuncData),(∀ (s:Shared) (u:Value),BindsTo s fdd ⟨[u],[]⟩ [("_law_script",u)])∧Top K mg Gs Gd gls gns∧Dn K mg (cfOf Gd) gns d_law st fa fdd∧∀ t∈Tbs.ts,K.lookup t.1 = none∧∃ c,PySem.W.codeHdIn K c t.1 = true:=by
 have e:=hfa.symm.trans (PySem.W.mg_of X G a41)
 cases e
 have F0:=fun_mk (st:=top 7) l0 c0 k0
 have D0:Dn K mg (cfOf Gd) gns d_inside (top 7) _ _:=⟨F0,PySem.W.mg_of X G a0,sc_inside,.inl ck_inside,F0.binds (ps:=d_inside.ps) fun _ _ _ _ _ _ us hl=>us1 (fun _=>rfl) us hl⟩
 have F1:=fun_mk (st:=top 17) l1 c1 k1
 have D1:Dn K mg (cfOf Gd) gns d_sorted_row (top 17) _ _:=⟨F1,PySem.W.mg_of X G a1,sc_sorted_row,.inl ck_sorted_row,F1.binds (ps:=d_sorted_row.ps) fun _ _ _ _ _ _ us hl=>us1 (fun _=>rfl) us hl⟩
 have F2:=fun_mk (st:=top 18) l2 c2 k2
 have D2:Dn K mg (cfOf Gd) gns d_more (top 18) _ _:=⟨F2,PySem.W.mg_of X G a2,sc_more,.inl ck_more,F2.binds (ps:=d_more.ps) fun _ _ _ _ _ _ us hl=>us2 (fun _ _=>rfl) us hl⟩
 have F3:=fun_mk (st:=top 19) l3 c3 k3
 have D3:Dn K mg (cfOf Gd) gns d_closes (top 19) _ _:=⟨F3,PySem.W.mg_of X G a3,sc_closes,.inl ck_closes,F3.binds (ps:=d_closes.ps) fun _ _ _ _ _ _ us hl=>us1 (fun _=>rfl) us hl⟩
 have F4:=fun_mk (st:=top 21) l4 c4 k4
 have D4:Dn K mg (cfOf Gd) gns d_other_side (top 21) _ _:=⟨F4,PySem.W.mg_of X G a4,sc_other_side,.inl ck_other_side,F4.binds (ps:=d_other_side.ps) fun _ _ _ _ _ _ us hl=>us1 (fun _=>rfl) us hl⟩
 have F5:=fun_mk (st:=top 22) l5 c5 k5
 have D5:Dn K mg (cfOf Gd) gns d_signed_within (top 22) _ _:=⟨F5,PySem.W.mg_of X G a5,sc_signed_within,.inl ck_signed_within,F5.binds (ps:=d_signed_within.ps) fun _ _ _ _ _ _ us hl=>us2 (fun _ _=>rfl) us hl⟩
 have F6:=fun_mk (st:=top 23) l6 c6 k6
 have D6:Dn K mg (cfOf Gd) gns d_parts (top 23) _ _:=⟨F6,PySem.W.mg_of X G a6,sc_parts,.inl ck_parts,F6.binds (ps:=d_parts.ps) fun _ _ _ _ _ _ us hl=>us3 (fun _ _ _=>rfl) us hl⟩
 have F7:=fun_mk (st:=top 24) l7 c7 k7
 have D7:Dn K mg (cfOf Gd) gns d_is_own (top 24) _ _:=⟨F7,PySem.W.mg_of X G a7,sc_is_own,.inl ck_is_own,F7.binds (ps:=d_is_own.ps) fun _ _ _ _ _ _ us hl=>us2 (fun _ _=>rfl) us hl⟩
 have F8:=fun_mk (st:=top 27) l8 c8 k8
 have D8:Dn K mg (cfOf Gd) gns d_kids_of (top 27) _ _:=⟨F8,PySem.W.mg_of X G a8,sc_kids_of,.inl ck_kids_of,F8.binds (ps:=d_kids_of.ps) fun _ _ _ _ _ _ us hl=>us1 (fun _=>rfl) us hl⟩
 have F9:=fun_mk (st:=top 28) l9 c9 k9
 have D9:Dn K mg (cfOf Gd) gns d_with_kids (top 28) _ _:=⟨F9,PySem.W.mg_of X G a9,sc_with_kids,.inl ck_with_kids,F9.binds (ps:=d_with_kids.ps) fun _ _ _ _ _ _ us hl=>us2 (fun _ _=>rfl) us hl⟩
 have F10:=fun_mk (st:=top 29) l10 c10 k10
 have D10:Dn K mg (cfOf Gd) gns d_added_above (top 29) _ _:=⟨F10,PySem.W.mg_of X G a10,sc_added_above,.inl ck_added_above,F10.binds (ps:=d_added_above.ps) fun _ _ _ _ _ _ us hl=>us1 (fun _=>rfl) us hl⟩
 have F11:=fun_mk (st:=top 30) l11 c11 k11
 have D11:Dn K mg (cfOf Gd) gns d_rows_above (top 30) _ _:=⟨F11,PySem.W.mg_of X G a11,sc_rows_above,.inl ck_rows_above,F11.binds (ps:=d_rows_above.ps) fun _ _ _ _ _ _ us hl=>us2 (fun _ _=>rfl) us hl⟩
 have F12:=fun_mk (st:=top 31) l12 c12 k12
 have D12:Dn K mg (cfOf Gd) gns d_stands_at (top 31) _ _:=⟨F12,PySem.W.mg_of X G a12,sc_stands_at,.inl ck_stands_at,F12.binds (ps:=d_stands_at.ps) fun _ _ _ _ _ _ us hl=>us2 (fun _ _=>rfl) us hl⟩
 have F13:=fun_mk (st:=top 32) l13 c13 k13
 have D13:Dn K mg (cfOf Gd) gns d_fits (top 32) _ _:=⟨F13,PySem.W.mg_of X G a13,sc_fits,.inl ck_fits,F13.binds (ps:=d_fits.ps) fun _ _ _ _ _ _ us hl=>us2 (fun _ _=>rfl) us hl⟩
 have F14:=fun_mk (st:=top 33) l14 c14 k14
 have D14:Dn K mg (cfOf Gd) gns d_trees_within (top 33) _ _:=⟨F14,PySem.W.mg_of X G a14,sc_trees_within,.inl ck_trees_within,F14.binds (ps:=d_trees_within.ps) fun _ _ _ _ _ _ us hl=>us1 (fun _=>rfl) us hl⟩
 have F15:=fun_mk (st:=top 34) l15 c15 k15
 have D15:Dn K mg (cfOf Gd) gns d_cuts_within (top 34) _ _:=⟨F15,PySem.W.mg_of X G a15,sc_cuts_within,.inl ck_cuts_within,F15.binds (ps:=d_cuts_within.ps) fun _ _ _ _ _ _ us hl=>us1 (fun _=>rfl) us hl⟩
 have F16:=fun_mk (st:=top 35) l16 c16 k16
 have D16:Dn K mg (cfOf Gd) gns d_cuts (top 35) _ _:=⟨F16,PySem.W.mg_of X G a16,sc_cuts,.inl ck_cuts,F16.binds (ps:=d_cuts.ps) fun _ _ _ _ _ _ us hl=>us1 (fun _=>rfl) us hl⟩
 have F17:=fun_mk (st:=top 37) l17 c17 k17
 have D17:Dn K mg (cfOf Gd) gns d_rules_of (top 37) _ _:=⟨F17,PySem.W.mg_of X G a17,sc_rules_of,.inl ck_rules_of,F17.binds (ps:=d_rules_of.ps) fun _ _ _ _ _ _ us hl=>us4 (fun _ _ _ _=>rfl) us hl⟩
 have F18:=fun_mk (st:=top 38) l18 c18 k18
 have D18:Dn K mg (cfOf Gd) gns d_shared_with (top 38) _ _:=⟨F18,PySem.W.mg_of X G a18,sc_shared_with,.inl ck_shared_with,F18.binds (ps:=d_shared_with.ps) fun _ _ _ _ _ _ us hl=>us2 (fun _ _=>rfl) us hl⟩
 have F19:=fun_mk (st:=top 39) l19 c19 k19
 have D19:Dn K mg (cfOf Gd) gns d_parted_close (top 39) _ _:=⟨F19,PySem.W.mg_of X G a19,sc_parted_close,.inl ck_parted_close,F19.binds (ps:=d_parted_close.ps) fun _ _ _ _ _ _ us hl=>us2 (fun _ _=>rfl) us hl⟩
 have F20:=fun_mk (st:=top 40) l20 c20 k20
 have D20:Dn K mg (cfOf Gd) gns d_of_two_kids (top 40) _ _:=⟨F20,PySem.W.mg_of X G a20,sc_of_two_kids,.inl ck_of_two_kids,F20.binds (ps:=d_of_two_kids.ps) fun _ _ _ _ _ _ us hl=>us3 (fun _ _ _=>rfl) us hl⟩
 have F21:=fun_mk (st:=top 42) l21 c21 k21
 have D21:Dn K mg (cfOf Gd) gns d_parted_tree (top 42) _ _:=⟨F21,PySem.W.mg_of X G a21,sc_parted_tree,.inl ck_parted_tree,F21.binds (ps:=d_parted_tree.ps) fun _ _ _ _ _ _ us hl=>us3 (fun _ _ _=>rfl) us hl⟩
 have F22:=fun_mk (st:=top 43) l22 c22 k22
 have D22:Dn K mg (cfOf Gd) gns d_parted (top 43) _ _:=⟨F22,PySem.W.mg_of X G a22,sc_parted,.inl ck_parted,F22.binds (ps:=d_parted.ps) fun _ _ _ _ _ _ us hl=>us3 (fun _ _ _=>rfl) us hl⟩
 have F23:=fun_mk (st:=top 45) l23 c23 k23
 have D23:Dn K mg (cfOf Gd) gns d__law_once (top 45) _ _:=⟨F23,PySem.W.mg_of X G a23,sc__law_once,.inl ck__law_once,F23.binds (ps:=d__law_once.ps) fun _ _ _ _ _ _ us hl=>us1 (fun _=>rfl) us hl⟩
 have F24:=fun_mk (st:=top 46) l24 c24 k24
 have D24:Dn K mg (cfOf Gd) gns d__law_cell (top 46) _ _:=⟨F24,PySem.W.mg_of X G a24,sc__law_cell,.inl ck__law_cell,F24.binds (ps:=d__law_cell.ps) fun _ _ _ _ _ _ us hl=>us2 (fun _ _=>rfl) us hl⟩
 have F25:=fun_mk (st:=top 47) l25 c25 k25
 have D25:Dn K mg (cfOf Gd) gns d__law_mix (top 47) _ _:=⟨F25,PySem.W.mg_of X G a25,sc__law_mix,.inl ck__law_mix,F25.binds (ps:=d__law_mix.ps) fun _ _ _ _ _ _ us hl=>us1 (fun _=>rfl) us hl⟩
 have F26:=fun_mk (st:=top 48) l26 c26 k26
 have D26:Dn K mg (cfOf Gd) gns d__law_at (top 48) _ _:=⟨F26,PySem.W.mg_of X G a26,sc__law_at,.inl ck__law_at,F26.binds (ps:=d__law_at.ps) fun _ _ _ _ _ _ us hl=>us3 (fun _ _ _=>rfl) us hl⟩
 have F27:=fun_mk (st:=top 49) l27 c27 k27
 have D27:Dn K mg (cfOf Gd) gns d__law_texts (top 49) _ _:=⟨F27,PySem.W.mg_of X G a27,sc__law_texts,.inl ck__law_texts,F27.binds (ps:=d__law_texts.ps) fun _ _ _ _ _ _ us hl=>us4 (fun _ _ _ _=>rfl) us hl⟩
 have F28:=fun_mk (st:=top 50) l28 c28 k28
 have D28:Dn K mg (cfOf Gd) gns d__law_words (top 50) _ _:=⟨F28,PySem.W.mg_of X G a28,sc__law_words,.inl ck__law_words,F28.binds (ps:=d__law_words.ps) fun _ _ _ _ _ _ us hl=>us1 (fun _=>rfl) us hl⟩
 have F29:=fun_mk (st:=top 51) l29 c29 k29
 have D29:Dn K mg (cfOf Gd) gns d__law_names_drawn (top 51) _ _:=⟨F29,PySem.W.mg_of X G a29,sc__law_names_drawn,.inl ck__law_names_drawn,F29.binds (ps:=d__law_names_drawn.ps) fun _ _ _ _ _ _ us hl=>us1 (fun _=>rfl) us hl⟩
 have F30:=fun_mk (st:=top 54) l30 c30 k30
 have D30:Dn K mg (cfOf Gd) gns d__law_size (top 54) _ _:=⟨F30,PySem.W.mg_of X G a30,sc__law_size,.inl ck__law_size,F30.binds (ps:=d__law_size.ps) fun _ _ _ _ _ _ us hl=>us1 (fun _=>rfl) us hl⟩
 have F31:=fun_mk (st:=top 56) l31 c31 k31
 have D31:Dn K mg (cfOf Gd) gns d__law_word (top 56) _ _:=⟨F31,PySem.W.mg_of X G a31,sc__law_word,.inl ck__law_word,F31.binds (ps:=d__law_word.ps) fun _ _ _ _ _ _ us hl=>us3 (fun _ _ _=>rfl) us hl⟩
 have F32:=fun_mk (st:=top 57) l32 c32 k32
 have D32:Dn K mg (cfOf Gd) gns d__law_more (top 57) _ _:=⟨F32,PySem.W.mg_of X G a32,sc__law_more,.inl ck__law_more,F32.binds (ps:=d__law_more.ps) fun _ _ _ _ _ _ us hl=>us2 (fun _ _=>rfl) us hl⟩
 have F33:=fun_mk (st:=top 58) l33 c33 k33
 have D33:Dn K mg (cfOf Gd) gns d__law_closes (top 58) _ _:=⟨F33,PySem.W.mg_of X G a33,sc__law_closes,.inl ck__law_closes,F33.binds (ps:=d__law_closes.ps) fun _ _ _ _ _ _ us hl=>us1 (fun _=>rfl) us hl⟩
 have F34:=fun_mk (st:=top 59) l34 c34 k34
 have D34:Dn K mg (cfOf Gd) gns d__law_branches (top 59) _ _:=⟨F34,PySem.W.mg_of X G a34,sc__law_branches,.inl ck__law_branches,F34.binds (ps:=d__law_branches.ps) fun _ _ _ _ _ _ us hl=>us3 (fun _ _ _=>rfl) us hl⟩
 have F35:=fun_mk (st:=top 60) l35 c35 k35
 have D35:Dn K mg (cfOf Gd) gns d__law_leaf (top 60) _ _:=⟨F35,PySem.W.mg_of X G a35,sc__law_leaf,.inl ck__law_leaf,F35.binds (ps:=d__law_leaf.ps) fun _ _ _ _ _ _ us hl=>us3 (fun _ _ _=>rfl) us hl⟩
 have F36:=fun_mk (st:=top 61) l36 c36 k36
 have D36:Dn K mg (cfOf Gd) gns d__law_on (top 61) _ _:=⟨F36,PySem.W.mg_of X G a36,sc__law_on,.inl ck__law_on,F36.binds (ps:=d__law_on.ps) fun _ _ _ _ _ _ us hl=>us4 (fun _ _ _ _=>rfl) us hl⟩
 have F37:=fun_mk (st:=top 62) l37 c37 k37
 have D37:Dn K mg (cfOf Gd) gns d__law_both (top 62) _ _:=⟨F37,PySem.W.mg_of X G a37,sc__law_both,.inl ck__law_both,F37.binds (ps:=d__law_both.ps) fun _ _ _ _ _ _ us hl=>us4 (fun _ _ _ _=>rfl) us hl⟩
 have F38:=fun_mk (st:=top 63) l38 c38 k38
 have D38:Dn K mg (cfOf Gd) gns d__law_dealt (top 63) _ _:=⟨F38,PySem.W.mg_of X G a38,sc__law_dealt,.inl ck__law_dealt,F38.binds (ps:=d__law_dealt.ps) fun _ _ _ _ _ _ us hl=>us2 (fun _ _=>rfl) us hl⟩
 have F39:=fun_mk (st:=top 64) l39 c39 k39
 have D39:Dn K mg (cfOf Gd) gns d__law_close_due (top 64) _ _:=⟨F39,PySem.W.mg_of X G a39,sc__law_close_due,.inl ck__law_close_due,F39.binds (ps:=d__law_close_due.ps) fun _ _ _ _ _ _ us hl=>us2 (fun _ _=>rfl) us hl⟩
 have F40:=fun_mk (st:=top 65) l40 c40 k40
 have D40:Dn K mg (cfOf Gd) gns d__law_due (top 65) _ _:=⟨F40,PySem.W.mg_of X G a40,sc__law_due,.inl ck__law_due,F40.binds (ps:=d__law_due.ps) fun _ _ _ _ _ _ us hl=>us3 (fun _ _ _=>rfl) us hl⟩
 have F41:=fun_mk (st:=top 66) l41 c41 k41
 have D41:Dn K mg (cfOf Gd) gns d_law (top 66) _ _:=⟨F41,PySem.W.mg_of X G a41,sc_law,.inl ck_law,F41.binds (ps:=d_law.ps) fun _ _ _ _ _ _ us hl=>us1 (fun _=>rfl) us hl⟩
 refine ⟨top 66,PySem.W.fnOf "law" "law" (defArgs (top 66)) (defBody (top 66)) (defScope (top 66)) .none kV41 dc41 pm41 an41 cd41 ct41,fun s v=>.of_eq rfl,⟨?_,?_,by decide +kernel,?_,?_,?_⟩,D41,?_⟩
 · exact ⟨⟨_,_,_,D0⟩,⟨_,_,_,D1⟩,⟨_,_,_,D2⟩,⟨_,_,_,D3⟩,⟨_,_,_,D4⟩,⟨_,_,_,D5⟩,⟨_,_,_,D6⟩,⟨_,_,_,D7⟩,⟨_,_,_,D8⟩,⟨_,_,_,D9⟩,⟨_,_,_,D10⟩,⟨_,_,_,D11⟩,⟨_,_,_,D12⟩,⟨_,_,_,D13⟩,⟨_,_,_,D14⟩,⟨_,_,_,D15⟩,⟨_,_,_,D16⟩,⟨_,_,_,D17⟩,⟨_,_,_,D18⟩,⟨_,_,_,D19⟩,⟨_,_,_,D20⟩,⟨_,_,_,D21⟩,⟨_,_,_,D22⟩,⟨_,_,_,D23⟩,⟨_,_,_,D24⟩,⟨_,_,_,D25⟩,⟨_,_,_,D26⟩,⟨_,_,_,D27⟩,⟨_,_,_,D28⟩,⟨_,_,_,D29⟩,⟨_,_,_,D30⟩,⟨_,_,_,D31⟩,⟨_,_,_,D32⟩,⟨_,_,_,D33⟩,⟨_,_,_,D34⟩,⟨_,_,_,D35⟩,⟨_,_,_,D36⟩,⟨_,_,_,D37⟩,⟨_,_,_,D38⟩,⟨_,_,_,D39⟩,⟨_,_,_,D40⟩,⟨_,_,_,D41⟩,trivial⟩
 · intro i fd h
   cases i with
   | zero=>exact h
   | succ i =>
   cases i with
   | zero=>exact h
   | succ i =>
   cases i with
   | zero=>exact h
   | succ i =>
   cases i with
   | zero=>exact h
   | succ i =>
   cases i with
   | zero=>exact h
   | succ i =>
   cases i with
   | zero=>exact h
   | succ i =>
   cases i with
   | zero=>exact h
   | succ i =>
   cases i with
   | zero=>exact h
   | succ i =>
   cases i with
   | zero=>exact h
   | succ i =>
   cases i with
   | zero=>exact h
   | succ i =>
   cases i with
   | zero=>exact h
   | succ i =>
   cases i with
   | zero=>exact h
   | succ i =>
   cases i with
   | zero=>exact h
   | succ i =>
   cases i with
   | zero=>exact h
   | succ i =>
   cases i with
   | zero=>exact h
   | succ i =>
   cases i with
   | zero=>exact h
   | succ i =>
   cases i with
   | zero=>exact h
   | succ i =>
   cases i with
   | zero=>exact h
   | succ i =>
   cases i with
   | zero=>exact h
   | succ i =>
   cases i with
   | zero=>exact h
   | succ i =>
   cases i with
   | zero=>exact h
   | succ i =>
   cases i with
   | zero=>exact h
   | succ i =>
   cases i with
   | zero=>exact h
   | succ i =>
   cases i with
   | zero=>exact h
   | succ i =>
   cases i with
   | zero=>exact h
   | succ i =>
   cases i with
   | zero=>exact h
   | succ i =>
   cases i with
   | zero=>exact h
   | succ i =>
   cases i with
   | zero=>exact h
   | succ i =>
   cases i with
   | zero=>exact h
   | succ i =>
   cases i with
   | zero=>exact h
   | succ i =>
   cases i with
   | zero=>exact h
   | succ i =>
   cases i with
   | zero=>exact h
   | succ i =>
   cases i with
   | zero=>exact h
   | succ i =>
   cases i with
   | zero=>exact h
   | succ i =>
   cases i with
   | zero=>exact h
   | succ i =>
   cases i with
   | zero=>exact h
   | succ i =>
   cases i with
   | zero=>exact h
   | succ i =>
   cases i with
   | zero=>exact h
   | succ i =>
   cases i with
   | zero=>exact h
   | succ i =>
   cases i with
   | zero=>exact h
   | succ i =>
   cases i with
   | zero=>exact h
   | succ i =>
   cases i with
   | zero=>exact h
   | succ i =>
   cases h
 · intro x hx
   have hx:x∈(["len","min","max","int","str","tuple","list","dict","sum","isinstance","bool","range","sorted","set","zip","any","divmod"]:List Str):=hx
   simp only [List.mem_cons,List.not_mem_nil,or_false] at hx
   rcases hx with rfl | rfl | rfl | rfl | rfl | rfl | rfl | rfl | rfl | rfl | rfl | rfl | rfl | rfl | rfl | rfl | rfl
   · exact PySem.W.mg_none_of X G z0
   · exact PySem.W.mg_none_of X G z1
   · exact PySem.W.mg_none_of X G z2
   · exact PySem.W.mg_none_of X G z3
   · exact PySem.W.mg_none_of X G z4
   · exact PySem.W.mg_none_of X G z5
   · exact PySem.W.mg_none_of X G z6
   · exact PySem.W.mg_none_of X G z7
   · exact PySem.W.mg_none_of X G z8
   · exact PySem.W.mg_none_of X G z9
   · exact PySem.W.mg_none_of X G z10
   · exact PySem.W.mg_none_of X G z11
   · exact PySem.W.mg_none_of X G z12
   · exact PySem.W.mg_none_of X G z13
   · exact PySem.W.mg_none_of X G z14
   · exact PySem.W.mg_none_of X G z15
   · exact PySem.W.mg_none_of X G z16
 · intro g x d h1 h2
   cases g with
   | zero =>
     cases h1;cases h2
     refine ⟨.ref g0,.ref g0,PySem.W.mg_of X G ga0,rfl,fun H F=>?_⟩
     unfold Rel
     refine ⟨g0,[.str "yes",.str "no",.str "word"],rfl,.inr ⟨_,_,gn0,gb0,rfl,rfl,by show 3≤sizeLine;decide,.cons ⟨_,rfl⟩ (.cons ⟨_,rfl⟩ (.cons ⟨_,rfl⟩ (.nil)))⟩,?_⟩
     exact RelL.cons (rel_str _) (RelL.cons (rel_str _) (RelL.cons (rel_str _) (RelL.nil)))
   | succ g =>
   cases g with
   | zero =>
     cases h1;cases h2
     refine ⟨.ref g1,.ref g1,PySem.W.mg_of X G ga1,rfl,fun H F=>?_⟩
     unfold Rel
     refine ⟨g1,[.str "all",.str "some"],rfl,.inr ⟨_,_,gn1,gb1,rfl,rfl,by show 2≤sizeLine;decide,.cons ⟨_,rfl⟩ (.cons ⟨_,rfl⟩ (.nil))⟩,?_⟩
     exact RelL.cons (rel_str _) (RelL.cons (rel_str _) (RelL.nil))
   | succ g =>
   cases g with
   | zero =>
     cases h1;cases h2
     refine ⟨.ref g2,.ref g2,PySem.W.mg_of X G ga2,rfl,fun H F=>?_⟩
     unfold Rel
     refine ⟨g2,[.ref g2x0,.ref g2x1,.ref g2x2],rfl,.inr ⟨_,_,gn2,gb2,rfl,rfl,by show 3≤sizeLine;decide,.cons rfl (.cons rfl (.cons rfl (.nil)))⟩,?_⟩
     have r0:Rel K H F (.tup [.str "right",.str "and"]) (.ref g2x0):=by
      unfold Rel
      refine ⟨g2x0,[.str "right",.str "and"],rfl,.inr ⟨_,_,gn2x0,gc2x0,rfl,rfl,by show 2≤sizeLine;decide,.cons ⟨_,rfl⟩ (.cons ⟨_,rfl⟩ (.nil))⟩,?_⟩
      exact RelL.cons (rel_str _) (RelL.cons (rel_str _) (RelL.nil))
     have r1:Rel K H F (.tup [.str "left",.str "or"]) (.ref g2x1):=by
      unfold Rel
      refine ⟨g2x1,[.str "left",.str "or"],rfl,.inr ⟨_,_,gn2x1,gc2x1,rfl,rfl,by show 2≤sizeLine;decide,.cons ⟨_,rfl⟩ (.cons ⟨_,rfl⟩ (.nil))⟩,?_⟩
      exact RelL.cons (rel_str _) (RelL.cons (rel_str _) (RelL.nil))
     have r2:Rel K H F (.tup [.str "left",.str "if"]) (.ref g2x2):=by
      unfold Rel
      refine ⟨g2x2,[.str "left",.str "if"],rfl,.inr ⟨_,_,gn2x2,gc2x2,rfl,rfl,by show 2≤sizeLine;decide,.cons ⟨_,rfl⟩ (.cons ⟨_,rfl⟩ (.nil))⟩,?_⟩
      exact RelL.cons (rel_str _) (RelL.cons (rel_str _) (RelL.nil))
     exact RelL.cons r0 (RelL.cons r1 (RelL.cons r2 (RelL.nil)))
   | succ g =>
   cases g with
   | zero =>
     cases h1;cases h2
     refine ⟨.ref g3,.ref g3,PySem.W.mg_of X G ga3,rfl,fun H F=>?_⟩
     unfold Rel
     refine ⟨g3,[.ref g3x0,.ref g3x1],rfl,.inr ⟨_,_,gn3,gb3,rfl,rfl,by show 2≤sizeLine;decide,.cons rfl (.cons rfl (.nil))⟩,?_⟩
     have r0:Rel K H F (.tup [.str "right",.str "all"]) (.ref g3x0):=by
      unfold Rel
      refine ⟨g3x0,[.str "right",.str "all"],rfl,.inr ⟨_,_,gn3x0,gc3x0,rfl,rfl,by show 2≤sizeLine;decide,.cons ⟨_,rfl⟩ (.cons ⟨_,rfl⟩ (.nil))⟩,?_⟩
      exact RelL.cons (rel_str _) (RelL.cons (rel_str _) (RelL.nil))
     have r1:Rel K H F (.tup [.str "left",.str "some"]) (.ref g3x1):=by
      unfold Rel
      refine ⟨g3x1,[.str "left",.str "some"],rfl,.inr ⟨_,_,gn3x1,gc3x1,rfl,rfl,by show 2≤sizeLine;decide,.cons ⟨_,rfl⟩ (.cons ⟨_,rfl⟩ (.nil))⟩,?_⟩
      exact RelL.cons (rel_str _) (RelL.cons (rel_str _) (RelL.nil))
     exact RelL.cons r0 (RelL.cons r1 (RelL.nil))
   | succ g =>
   cases g with
   | zero =>
     cases h1;cases h2
     refine ⟨.ref g4,.ref g4,PySem.W.mg_of X G ga4,rfl,fun H F=>?_⟩
     unfold Rel
     refine ⟨g4,[.str "close"],rfl,.inr ⟨_,_,gn4,gb4,rfl,rfl,by show 1≤sizeLine;decide,.cons ⟨_,rfl⟩ (.nil)⟩,?_⟩
     exact RelL.cons (rel_str _) (RelL.nil)
   | succ g =>
   cases h1
 · intro g x h1
   cases g with
   | zero=>exact ⟨_,rfl⟩
   | succ g =>
   cases g with
   | zero=>exact ⟨_,rfl⟩
   | succ g =>
   cases g with
   | zero=>exact ⟨_,rfl⟩
   | succ g =>
   cases g with
   | zero=>exact ⟨_,rfl⟩
   | succ g =>
   cases g with
   | zero=>exact ⟨_,rfl⟩
   | succ g =>
   cases h1
 · intro t ht
   cases ht
end P1
end
section
def PySem.W.Fast.tw10011142247413393241:=()
def PySem.W.Fast.tw10026866014926913807:=()
def PySem.W.Fast.tw10114522418796785954:=()
def PySem.W.Fast.tw10271290138004495314:=()
def PySem.W.Fast.tw10305421279122316156:=()
def PySem.W.Fast.tw10318511866231596592:=()
def PySem.W.Fast.tw10324756212972073611:=()
def PySem.W.Fast.tw10347695544524541475:=()
def PySem.W.Fast.tw10516004590013730138:=()
def PySem.W.Fast.tw10533041779729136643:=()
def PySem.W.Fast.tw10568989348980290593:=()
def PySem.W.Fast.tw1057966690337119692:=()
def PySem.W.Fast.tw10599779557564258084:=()
def PySem.W.Fast.tw10601825420798021521:=()
def PySem.W.Fast.tw10624198747273058659:=()
def PySem.W.Fast.tw10630069948944627456:=()
def PySem.W.Fast.tw10659477855654087914:=()
def PySem.W.Fast.tw10661889229582968079:=()
def PySem.W.Fast.tw1073783566627236235:=()
def PySem.W.Fast.tw10780364465759269935:=()
def PySem.W.Fast.tw10847310103930176255:=()
def PySem.W.Fast.tw10857348994798113435:=()
def PySem.W.Fast.tw10882920682132091060:=()
def PySem.W.Fast.tw1090923551354426451:=()
def PySem.W.Fast.tw10917392824716247355:=()
def PySem.W.Fast.tw10930762369908389507:=()
def PySem.W.Fast.tw10992491459416555529:=()
def PySem.W.Fast.tw11016952768727347586:=()
def PySem.W.Fast.tw11018226630692775115:=()
def PySem.W.Fast.tw11120585223690636555:=()
def PySem.W.Fast.tw11214296926747587083:=()
def PySem.W.Fast.tw11218960010299748635:=()
def PySem.W.Fast.tw1123764816316218262:=()
def PySem.W.Fast.tw11281788327496186675:=()
def PySem.W.Fast.tw1128886381971087132:=()
def PySem.W.Fast.tw11305366573351314716:=()
def PySem.W.Fast.tw11329647735067272186:=()
def PySem.W.Fast.tw11360001973885287579:=()
def PySem.W.Fast.tw11403439992031696115:=()
def PySem.W.Fast.tw11430779478217585559:=()
def PySem.W.Fast.tw11431310221835741686:=()
def PySem.W.Fast.tw11431372623719381406:=()
def PySem.W.Fast.tw11447413948668396368:=()
def PySem.W.Fast.tw11470053348243597688:=()
def PySem.W.Fast.tw11596922808865399335:=()
def PySem.W.Fast.tw11603827648712897982:=()
def PySem.W.Fast.tw11631791962046702184:=()
def PySem.W.Fast.tw11635116389278785429:=()
def PySem.W.Fast.tw11693586310785492174:=()
def PySem.W.Fast.tw11717878987309923357:=()
def PySem.W.Fast.tw1176331149623360075:=()
def PySem.W.Fast.tw11802221603456875914:=()
def PySem.W.Fast.tw11808219491405571023:=()
def PySem.W.Fast.tw11833804176740930551:=()
def PySem.W.Fast.tw11891179721567714635:=()
def PySem.W.Fast.tw12106177548760672829:=()
def PySem.W.Fast.tw12143709476618194699:=()
def PySem.W.Fast.tw12200636486383686934:=()
def PySem.W.Fast.tw12276794001200495594:=()
def PySem.W.Fast.tw12288346822160163337:=()
def PySem.W.Fast.tw12342724744425992193:=()
def PySem.W.Fast.tw12414317722167983102:=()
def PySem.W.Fast.tw12422175681819439837:=()
def PySem.W.Fast.tw12440837235543538580:=()
def PySem.W.Fast.tw12462801238682320258:=()
def PySem.W.Fast.tw12473779776803002764:=()
def PySem.W.Fast.tw12485123309463101597:=()
def PySem.W.Fast.tw1248582730118890040:=()
def PySem.W.Fast.tw12504064286735274625:=()
def PySem.W.Fast.tw12575555114737520682:=()
def PySem.W.Fast.tw12587781489489239870:=()
def PySem.W.Fast.tw12591534644720885759:=()
def PySem.W.Fast.tw1262923195464153022:=()
def PySem.W.Fast.tw12687445049549155203:=()
def PySem.W.Fast.tw12712726323721829119:=()
def PySem.W.Fast.tw12729213583578523526:=()
def PySem.W.Fast.tw12801076437607069905:=()
def PySem.W.Fast.tw12810195970825154817:=()
def PySem.W.Fast.tw1284490160799144089:=()
def PySem.W.Fast.tw12905231193082170422:=()
def PySem.W.Fast.tw13024125186073501116:=()
def PySem.W.Fast.tw13033122497582725131:=()
def PySem.W.Fast.tw13139884958102857607:=()
def PySem.W.Fast.tw13147612542192659042:=()
def PySem.W.Fast.tw13210960278638893582:=()
def PySem.W.Fast.tw13313227274545674416:=()
def PySem.W.Fast.tw13387250876090073269:=()
def PySem.W.Fast.tw13415837112270699349:=()
def PySem.W.Fast.tw13512372258294524567:=()
def PySem.W.Fast.tw13527429997439937653:=()
def PySem.W.Fast.tw13570485080628960451:=()
def PySem.W.Fast.tw13639356969843169917:=()
def PySem.W.Fast.tw13671702443062887034:=()
def PySem.W.Fast.tw13722919695844144180:=()
def PySem.W.Fast.tw13741597001519268129:=()
def PySem.W.Fast.tw13797273700507824174:=()
def PySem.W.Fast.tw13799924468948676263:=()
def PySem.W.Fast.tw13855614258663631970:=()
def PySem.W.Fast.tw13881149833682197426:=()
def PySem.W.Fast.tw13971911553092433308:=()
def PySem.W.Fast.tw14078417911275007325:=()
def PySem.W.Fast.tw14197914348628332248:=()
def PySem.W.Fast.tw14279021400756696650:=()
def PySem.W.Fast.tw14423561855298073957:=()
def PySem.W.Fast.tw1443685121750138231:=()
def PySem.W.Fast.tw14445309203790226970:=()
def PySem.W.Fast.tw14477334370650970263:=()
def PySem.W.Fast.tw14499129135809204119:=()
def PySem.W.Fast.tw14594284561179545153:=()
def PySem.W.Fast.tw14620180209922404019:=()
def PySem.W.Fast.tw147539391646740242:=()
def PySem.W.Fast.tw14774593211090826270:=()
def PySem.W.Fast.tw14807351483993845498:=()
def PySem.W.Fast.tw14815896392733642104:=()
def PySem.W.Fast.tw14902693206693126667:=()
def PySem.W.Fast.tw14933057444902046070:=()
def PySem.W.Fast.tw15042593380729931385:=()
def PySem.W.Fast.tw15096308650428612092:=()
def PySem.W.Fast.tw15189314103096860977:=()
def PySem.W.Fast.tw15196132208620218718:=()
def PySem.W.Fast.tw15239795791139050805:=()
def PySem.W.Fast.tw15242989007481055964:=()
def PySem.W.Fast.tw15292173560884913711:=()
def PySem.W.Fast.tw15389834827095970676:=()
def PySem.W.Fast.tw15437485820072158627:=()
def PySem.W.Fast.tw15501409484238790836:=()
def PySem.W.Fast.tw15551006329409406401:=()
def PySem.W.Fast.tw15579325682134334784:=()
def PySem.W.Fast.tw15680477153299629798:=()
def PySem.W.Fast.tw15709644229678278970:=()
def PySem.W.Fast.tw15782995996166283014:=()
def PySem.W.Fast.tw15930509645855652497:=()
def PySem.W.Fast.tw15935502349179688957:=()
def PySem.W.Fast.tw15981679063733694582:=()
def PySem.W.Fast.tw16005446519916116847:=()
def PySem.W.Fast.tw16010085717599882822:=()
def PySem.W.Fast.tw16056397844442574714:=()
def PySem.W.Fast.tw1608211401149072817:=()
def PySem.W.Fast.tw160854667943172032:=()
def PySem.W.Fast.tw16215120900093176377:=()
def PySem.W.Fast.tw16216360670207323554:=()
def PySem.W.Fast.tw16245484054746142166:=()
def PySem.W.Fast.tw16335764101018040076:=()
def PySem.W.Fast.tw163577966152216137:=()
def PySem.W.Fast.tw16415288655146938482:=()
def PySem.W.Fast.tw16426728202892403346:=()
def PySem.W.Fast.tw16440025014408251043:=()
def PySem.W.Fast.tw16456948082398075976:=()
def PySem.W.Fast.tw16464381451299318080:=()
def PySem.W.Fast.tw16477249758836843931:=()
def PySem.W.Fast.tw16549023319135297771:=()
def PySem.W.Fast.tw16557198142585583777:=()
def PySem.W.Fast.tw16577215973358763332:=()
def PySem.W.Fast.tw16587689829084563737:=()
def PySem.W.Fast.tw16710695951103877219:=()
def PySem.W.Fast.tw16784029308092086856:=()
def PySem.W.Fast.tw16785633819986248670:=()
def PySem.W.Fast.tw16840800802640364721:=()
def PySem.W.Fast.tw16885269726251158786:=()
def PySem.W.Fast.tw16946773927172275879:=()
def PySem.W.Fast.tw16999099999740972840:=()
def PySem.W.Fast.tw17061089544308719013:=()
def PySem.W.Fast.tw17064509480955358280:=()
def PySem.W.Fast.tw17168873580162704603:=()
def PySem.W.Fast.tw17182684530753260119:=()
def PySem.W.Fast.tw17209029622887243676:=()
def PySem.W.Fast.tw17223298397924341617:=()
def PySem.W.Fast.tw17393306026312414916:=()
def PySem.W.Fast.tw17406028284072317285:=()
def PySem.W.Fast.tw1749136268886735106:=()
def PySem.W.Fast.tw17621351013356573029:=()
def PySem.W.Fast.tw1762242531718585025:=()
def PySem.W.Fast.tw17689816609079001430:=()
def PySem.W.Fast.tw17715537928607390930:=()
def PySem.W.Fast.tw17720146464157513327:=()
def PySem.W.Fast.tw17750040579989660252:=()
def PySem.W.Fast.tw17769693945951487596:=()
def PySem.W.Fast.tw17775168098384745366:=()
def PySem.W.Fast.tw17822131828411315938:=()
def PySem.W.Fast.tw17861535190545689305:=()
def PySem.W.Fast.tw17866790810286846398:=()
def PySem.W.Fast.tw17883285517850084770:=()
def PySem.W.Fast.tw17887014905193066823:=()
def PySem.W.Fast.tw17912639886606446356:=()
def PySem.W.Fast.tw17982679415882634407:=()
def PySem.W.Fast.tw1804208567110450954:=()
def PySem.W.Fast.tw18044202717311176590:=()
def PySem.W.Fast.tw18056982843588543034:=()
def PySem.W.Fast.tw18069446607303048807:=()
def PySem.W.Fast.tw18213750529238719917:=()
def PySem.W.Fast.tw18294733307922004076:=()
def PySem.W.Fast.tw18364479421254157755:=()
def PySem.W.Fast.tw18436561611440398902:=()
def PySem.W.Fast.tw1927054346635607503:=()
def PySem.W.Fast.tw198882306731708980:=()
def PySem.W.Fast.tw2015274622466218114:=()
def PySem.W.Fast.tw209409620632969132:=()
def PySem.W.Fast.tw2102240765982588649:=()
def PySem.W.Fast.tw2149641526424772361:=()
def PySem.W.Fast.tw2170544661474347356:=()
def PySem.W.Fast.tw2189709757771889802:=()
def PySem.W.Fast.tw2208830497298811755:=()
def PySem.W.Fast.tw224469117836481395:=()
def PySem.W.Fast.tw2364951661569507523:=()
def PySem.W.Fast.tw2393206909955843667:=()
def PySem.W.Fast.tw2581262659573501559:=()
def PySem.W.Fast.tw2625725081882531554:=()
def PySem.W.Fast.tw2645053484458377156:=()
def PySem.W.Fast.tw2706651859855665630:=()
def PySem.W.Fast.tw2741772750751484927:=()
def PySem.W.Fast.tw2774280682444969697:=()
def PySem.W.Fast.tw278368758267408795:=()
def PySem.W.Fast.tw2790044462900219466:=()
def PySem.W.Fast.tw2797612201084741486:=()
def PySem.W.Fast.tw2825819877854960019:=()
def PySem.W.Fast.tw2903209505414965992:=()
def PySem.W.Fast.tw294403523032385095:=()
def PySem.W.Fast.tw3032624994793724322:=()
def PySem.W.Fast.tw3065583586424509081:=()
def PySem.W.Fast.tw3134076544425836450:=()
def PySem.W.Fast.tw3163219736434735457:=()
def PySem.W.Fast.tw3277520094585859503:=()
def PySem.W.Fast.tw3314462912864719402:=()
def PySem.W.Fast.tw3330780756471709575:=()
def PySem.W.Fast.tw3362392956390700019:=()
def PySem.W.Fast.tw3407082266621725309:=()
def PySem.W.Fast.tw3413390567680541123:=()
def PySem.W.Fast.tw343358432935539301:=()
def PySem.W.Fast.tw3447077565775843411:=()
def PySem.W.Fast.tw3472201776824926176:=()
def PySem.W.Fast.tw3485530214885791631:=()
def PySem.W.Fast.tw3521019407034197783:=()
def PySem.W.Fast.tw352705953733416878:=()
def PySem.W.Fast.tw3542090298179177742:=()
def PySem.W.Fast.tw3546863659730207499:=()
def PySem.W.Fast.tw366716838947821212:=()
def PySem.W.Fast.tw3754547153127822492:=()
def PySem.W.Fast.tw3765458992792969979:=()
def PySem.W.Fast.tw3802365547181311143:=()
def PySem.W.Fast.tw3808858605879624554:=()
def PySem.W.Fast.tw3836249502816323100:=()
def PySem.W.Fast.tw3848907726456131682:=()
def PySem.W.Fast.tw3980037477415438230:=()
def PySem.W.Fast.tw4030015460230534684:=()
def PySem.W.Fast.tw4074677093874440535:=()
def PySem.W.Fast.tw4085835440357888016:=()
def PySem.W.Fast.tw4149594809769197174:=()
def PySem.W.Fast.tw4200105067602668215:=()
def PySem.W.Fast.tw4223358513149161279:=()
def PySem.W.Fast.tw4449959481325837986:=()
def PySem.W.Fast.tw4488860194311981060:=()
def PySem.W.Fast.tw4551599924564051203:=()
def PySem.W.Fast.tw4707641637188102704:=()
def PySem.W.Fast.tw4755410513648206018:=()
def PySem.W.Fast.tw4799628090166859609:=()
def PySem.W.Fast.tw4858246491851205039:=()
def PySem.W.Fast.tw487495546394103308:=()
def PySem.W.Fast.tw4878842136364807440:=()
def PySem.W.Fast.tw490182748964675379:=()
def PySem.W.Fast.tw4938964211077233201:=()
def PySem.W.Fast.tw4960409644992158337:=()
def PySem.W.Fast.tw496396249370929244:=()
def PySem.W.Fast.tw4970642843770744957:=()
def PySem.W.Fast.tw5149718931673534664:=()
def PySem.W.Fast.tw522312738830033618:=()
def PySem.W.Fast.tw532058932654102944:=()
def PySem.W.Fast.tw5463125272939623283:=()
def PySem.W.Fast.tw551347360461684085:=()
def PySem.W.Fast.tw5559604696114087430:=()
def PySem.W.Fast.tw5575224779751974874:=()
def PySem.W.Fast.tw5599217068453397177:=()
def PySem.W.Fast.tw5610819468340368508:=()
def PySem.W.Fast.tw5632910501207047116:=()
def PySem.W.Fast.tw5643900870923216564:=()
def PySem.W.Fast.tw5743833333290846384:=()
def PySem.W.Fast.tw5850662581356599903:=()
def PySem.W.Fast.tw5856580082176286850:=()
def PySem.W.Fast.tw5890614166923479509:=()
def PySem.W.Fast.tw5982226849549544594:=()
def PySem.W.Fast.tw6034279436284192903:=()
def PySem.W.Fast.tw6089682084479729505:=()
def PySem.W.Fast.tw6135358064897818282:=()
def PySem.W.Fast.tw6188917486884829997:=()
def PySem.W.Fast.tw6277362423531148498:=()
def PySem.W.Fast.tw6292464626655895248:=()
def PySem.W.Fast.tw6313142075385143754:=()
def PySem.W.Fast.tw6326618121639341696:=()
def PySem.W.Fast.tw6397754850670715282:=()
def PySem.W.Fast.tw6458636079213459428:=()
def PySem.W.Fast.tw6518618952431083826:=()
def PySem.W.Fast.tw6538556598445873125:=()
def PySem.W.Fast.tw6546387639976154534:=()
def PySem.W.Fast.tw6556299262781853418:=()
def PySem.W.Fast.tw6587825834256037916:=()
def PySem.W.Fast.tw6592626572968693802:=()
def PySem.W.Fast.tw6636365721526443713:=()
def PySem.W.Fast.tw6778227401060876964:=()
def PySem.W.Fast.tw6868964874837286495:=()
def PySem.W.Fast.tw688077575593737392:=()
def PySem.W.Fast.tw6886399278207486749:=()
def PySem.W.Fast.tw6894283938628131086:=()
def PySem.W.Fast.tw6912470231655173640:=()
def PySem.W.Fast.tw6957140280497744080:=()
def PySem.W.Fast.tw6980249960635535904:=()
def PySem.W.Fast.tw7001321250859935903:=()
def PySem.W.Fast.tw7138575420474339674:=()
def PySem.W.Fast.tw7146395525206000788:=()
def PySem.W.Fast.tw7390310124650929641:=()
def PySem.W.Fast.tw7477681574282400293:=()
def PySem.W.Fast.tw7526650506775662419:=()
def PySem.W.Fast.tw7537154424165663873:=()
def PySem.W.Fast.tw7551947201439513405:=()
def PySem.W.Fast.tw7566054063384708431:=()
def PySem.W.Fast.tw7631962764989743939:=()
def PySem.W.Fast.tw7637924693737839509:=()
def PySem.W.Fast.tw7669352259860236373:=()
def PySem.W.Fast.tw768619906676143189:=()
def PySem.W.Fast.tw7700911348281608919:=()
def PySem.W.Fast.tw7712995644024596758:=()
def PySem.W.Fast.tw774132110236910681:=()
def PySem.W.Fast.tw7855624750109244651:=()
def PySem.W.Fast.tw7896988280086831465:=()
def PySem.W.Fast.tw7899509908161291542:=()
def PySem.W.Fast.tw7904784740180767072:=()
def PySem.W.Fast.tw7991623840622700246:=()
def PySem.W.Fast.tw800474912791245374:=()
def PySem.W.Fast.tw8009271487538498178:=()
def PySem.W.Fast.tw8094964490084380460:=()
def PySem.W.Fast.tw8139689182927213020:=()
def PySem.W.Fast.tw8240038600688098835:=()
def PySem.W.Fast.tw8403113380373380584:=()
def PySem.W.Fast.tw8503917256642630011:=()
def PySem.W.Fast.tw8504048499834786782:=()
def PySem.W.Fast.tw8537770453914545747:=()
def PySem.W.Fast.tw863107531767497984:=()
def PySem.W.Fast.tw8648063703155777705:=()
def PySem.W.Fast.tw8867672144267412089:=()
def PySem.W.Fast.tw8873666469875812331:=()
def PySem.W.Fast.tw888024793675568911:=()
def PySem.W.Fast.tw8946705404341506694:=()
def PySem.W.Fast.tw8949584555648278107:=()
def PySem.W.Fast.tw8950875342389423255:=()
def PySem.W.Fast.tw8970588606278861344:=()
def PySem.W.Fast.tw8981051253456744704:=()
def PySem.W.Fast.tw8989802481251211238:=()
def PySem.W.Fast.tw9014463545497881109:=()
def PySem.W.Fast.tw9098837625494044822:=()
def PySem.W.Fast.tw9122621612949568939:=()
def PySem.W.Fast.tw9130241925637333678:=()
def PySem.W.Fast.tw9199810239766580429:=()
def PySem.W.Fast.tw9247189545696847406:=()
def PySem.W.Fast.tw9304117147346560154:=()
def PySem.W.Fast.tw9319968018106322604:=()
def PySem.W.Fast.tw939183503366428840:=()
def PySem.W.Fast.tw945698557631179245:=()
def PySem.W.Fast.tw9490096963997177436:=()
def PySem.W.Fast.tw9570594783591352917:=()
def PySem.W.Fast.tw9705010408325095628:=()
def PySem.W.Fast.tw9768968313134164219:=()
def PySem.W.Fast.tw9801354437563809110:=()
def PySem.W.Fast.tw9803322381939117717:=()
def PySem.W.Fast.tw9844598488430848322:=()
def PySem.W.Fast.tw9870519691756354320:=()
def PySem.W.Fast.tw9965965479803487638:=()
open PySem PySem.W PyProof.Rows
set_option maxRecDepth 100000 in
set_option maxHeartbeats 0 in
theorem PySem.Challenge.cw_cutless_k33_two_branches_parted_holds : PySem.Challenge.rw_cutless_k33_two_branches_parted.Holds := by
 w_on
 refine PySem.W.holds_law (by decide +kernel) fun said=>?_
 k_head;(case hw=>w_witness2)
 k_fill
 refine PP.walk_run (l:=PySem.Challenge.rw_cutless_k33_two_branches_parted) (G:=P1.Gs) (Gd:=P1.Gd) (gl:=P1.gls) (gn:=P1.gns) (i:=41) (fd:=P1.d_law) (x:="_law_script") P1.main rfl rfl rfl rfl (fun w h Y=>⟨PySem.W.km_in_of Y,fun t ht=>by cases ht⟩) ?F
 case F =>
  intro w mg fa h KX G hmg
  refine' P1.all_mk (l:=PySem.Challenge.rw_cutless_k33_two_branches_parted) (w:=w) KX G hmg ?a0 ?l0 ?c0 ?k0 ?a1 ?l1 ?c1 ?k1 ?a2 ?l2 ?c2 ?k2 ?a3 ?l3 ?c3 ?k3 ?a4 ?l4 ?c4 ?k4 ?a5 ?l5 ?c5 ?k5 ?a6 ?l6 ?c6 ?k6 ?a7 ?l7 ?c7 ?k7 ?a8 ?l8 ?c8 ?k8 ?a9 ?l9 ?c9 ?k9 ?a10 ?l10 ?c10 ?k10 ?a11 ?l11 ?c11 ?k11 ?a12 ?l12 ?c12 ?k12 ?a13 ?l13 ?c13 ?k13 ?a14 ?l14 ?c14 ?k14 ?a15 ?l15 ?c15 ?k15 ?a16 ?l16 ?c16 ?k16 ?a17 ?l17 ?c17 ?k17 ?a18 ?l18 ?c18 ?k18 ?a19 ?l19 ?c19 ?k19 ?a20 ?l20 ?c20 ?k20 ?a21 ?l21 ?c21 ?k21 ?a22 ?l22 ?c22 ?k22 ?a23 ?l23 ?c23 ?k23 ?a24 ?l24 ?c24 ?k24 ?a25 ?l25 ?c25 ?k25 ?a26 ?l26 ?c26 ?k26 ?a27 ?l27 ?c27 ?k27 ?a28 ?l28 ?c28 ?k28 ?a29 ?l29 ?c29 ?k29 ?a30 ?l30 ?c30 ?k30 ?a31 ?l31 ?c31 ?k31 ?a32 ?l32 ?c32 ?k32 ?a33 ?l33 ?c33 ?k33 ?a34 ?l34 ?c34 ?k34 ?a35 ?l35 ?c35 ?k35 ?a36 ?l36 ?c36 ?k36 ?a37 ?l37 ?c37 ?k37 ?a38 ?l38 ?c38 ?k38 ?a39 ?l39 ?c39 ?k39 ?a40 ?l40 ?c40 ?k40 ?a41 ?l41 ?c41 ?k41 ?z0 ?z1 ?z2 ?z3 ?z4 ?z5 ?z6 ?z7 ?z8 ?z9 ?z10 ?z11 ?z12 ?z13 ?z14 ?z15 ?z16 ?ga0 ?gb0 ?ga1 ?gb1 ?ga2 ?gb2 ?gc2x0 ?gc2x1 ?gc2x2 ?ga3 ?gb3 ?gc3x0 ?gc3x1 ?ga4 ?gb4
  (case a0=>k_is)
  (case l0=>k_is)
  (case c0=>k_is)
  (case k0=>k_is)
  (case a1=>k_is)
  (case l1=>k_is)
  (case c1=>k_is)
  (case k1=>k_is)
  (case a2=>k_is)
  (case l2=>k_is)
  (case c2=>k_is)
  (case k2=>k_is)
  (case a3=>k_is)
  (case l3=>k_is)
  (case c3=>k_is)
  (case k3=>k_is)
  (case a4=>k_is)
  (case l4=>k_is)
  (case c4=>k_is)
  (case k4=>k_is)
  (case a5=>k_is)
  (case l5=>k_is)
  (case c5=>k_is)
  (case k5=>k_is)
  (case a6=>k_is)
  (case l6=>k_is)
  (case c6=>k_is)
  (case k6=>k_is)
  (case a7=>k_is)
  (case l7=>k_is)
  (case c7=>k_is)
  (case k7=>k_is)
  (case a8=>k_is)
  (case l8=>k_is)
  (case c8=>k_is)
  (case k8=>k_is)
  (case a9=>k_is)
  (case l9=>k_is)
  (case c9=>k_is)
  (case k9=>k_is)
  (case a10=>k_is)
  (case l10=>k_is)
  (case c10=>k_is)
  (case k10=>k_is)
  (case a11=>k_is)
  (case l11=>k_is)
  (case c11=>k_is)
  (case k11=>k_is)
  (case a12=>k_is)
  (case l12=>k_is)
  (case c12=>k_is)
  (case k12=>k_is)
  (case a13=>k_is)
  (case l13=>k_is)
  (case c13=>k_is)
  (case k13=>k_is)
  (case a14=>k_is)
  (case l14=>k_is)
  (case c14=>k_is)
  (case k14=>k_is)
  (case a15=>k_is)
  (case l15=>k_is)
  (case c15=>k_is)
  (case k15=>k_is)
  (case a16=>k_is)
  (case l16=>k_is)
  (case c16=>k_is)
  (case k16=>k_is)
  (case a17=>k_is)
  (case l17=>k_is)
  (case c17=>k_is)
  (case k17=>k_is)
  (case a18=>k_is)
  (case l18=>k_is)
  (case c18=>k_is)
  (case k18=>k_is)
  (case a19=>k_is)
  (case l19=>k_is)
  (case c19=>k_is)
  (case k19=>k_is)
  (case a20=>k_is)
  (case l20=>k_is)
  (case c20=>k_is)
  (case k20=>k_is)
  (case a21=>k_is)
  (case l21=>k_is)
  (case c21=>k_is)
  (case k21=>k_is)
  (case a22=>k_is)
  (case l22=>k_is)
  (case c22=>k_is)
  (case k22=>k_is)
  (case a23=>k_is)
  (case l23=>k_is)
  (case c23=>k_is)
  (case k23=>k_is)
  (case a24=>k_is)
  (case l24=>k_is)
  (case c24=>k_is)
  (case k24=>k_is)
  (case a25=>k_is)
  (case l25=>k_is)
  (case c25=>k_is)
  (case k25=>k_is)
  (case a26=>k_is)
  (case l26=>k_is)
  (case c26=>k_is)
  (case k26=>k_is)
  (case a27=>k_is)
  (case l27=>k_is)
  (case c27=>k_is)
  (case k27=>k_is)
  (case a28=>k_is)
  (case l28=>k_is)
  (case c28=>k_is)
  (case k28=>k_is)
  (case a29=>k_is)
  (case l29=>k_is)
  (case c29=>k_is)
  (case k29=>k_is)
  (case a30=>k_is)
  (case l30=>k_is)
  (case c30=>k_is)
  (case k30=>k_is)
  (case a31=>k_is)
  (case l31=>k_is)
  (case c31=>k_is)
  (case k31=>k_is)
  (case a32=>k_is)
  (case l32=>k_is)
  (case c32=>k_is)
  (case k32=>k_is)
  (case a33=>k_is)
  (case l33=>k_is)
  (case c33=>k_is)
  (case k33=>k_is)
  (case a34=>k_is)
  (case l34=>k_is)
  (case c34=>k_is)
  (case k34=>k_is)
  (case a35=>k_is)
  (case l35=>k_is)
  (case c35=>k_is)
  (case k35=>k_is)
  (case a36=>k_is)
  (case l36=>k_is)
  (case c36=>k_is)
  (case k36=>k_is)
  (case a37=>k_is)
  (case l37=>k_is)
  (case c37=>k_is)
  (case k37=>k_is)
  (case a38=>k_is)
  (case l38=>k_is)
  (case c38=>k_is)
  (case k38=>k_is)
  (case a39=>k_is)
  (case l39=>k_is)
  (case c39=>k_is)
  (case k39=>k_is)
  (case a40=>k_is)
  (case l40=>k_is)
  (case c40=>k_is)
  (case k40=>k_is)
  (case a41=>k_is)
  (case l41=>k_is)
  (case c41=>k_is)
  (case k41=>k_is)
  (case z0=>k_is)
  (case z1=>k_is)
  (case z2=>k_is)
  (case z3=>k_is)
  (case z4=>k_is)
  (case z5=>k_is)
  (case z6=>k_is)
  (case z7=>k_is)
  (case z8=>k_is)
  (case z9=>k_is)
  (case z10=>k_is)
  (case z11=>k_is)
  (case z12=>k_is)
  (case z13=>k_is)
  (case z14=>k_is)
  (case z15=>k_is)
  (case z16=>k_is)
  (case ga0=>k_is)
  (case gb0=>k_is)
  (case ga1=>k_is)
  (case gb1=>k_is)
  (case ga2=>k_is)
  (case gb2=>k_is)
  (case gc2x0=>k_is)
  (case gc2x1=>k_is)
  (case gc2x2=>k_is)
  (case ga3=>k_is)
  (case gb3=>k_is)
  (case gc3x0=>k_is)
  (case gc3x1=>k_is)
  (case ga4=>k_is)
  (case gb4=>k_is)
end
