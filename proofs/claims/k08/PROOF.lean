import PyProof.Rows.All
import Wide.All
import OpenK.AllK
import Wide.FinOn
import Lean
import PyProof.EqAt
import PyProof.EqKinds
import PyProof.TupleCall
import KE.KSortAsk
import KE.KIntText
import KE.KMinBuiltin
import PySem.Challenge.RW_cutless_k08_marks
noncomputable section
set_option Elab.async false
set_option linter.all false
set_option maxRecDepth 100000
set_option maxHeartbeats 4000000
section
-- CHANGE: your row's module here,as the last of these rows
namespace L2
open PySem PySem.Spec PyProof.Rows
abbrev Key:=Sum Int Str
def keyIs:Key→Value→Bool
 | .inl k,v=>Value.isInt k v
 | .inr x,v=>Value.isStrOf x v
def keyH (w:World):Key→Int
 | .inl k=>hashInt k
 | .inr x=>hashStr w x
theorem keyIs_shape:∀ {k:Key} {v:Value},keyIs k v = true→(∃ i t,k = Sum.inl i∧v = Value.int i t)∨(∃ x t,k = Sum.inr x∧v = Value.str x t)
 | .inl i,v,h=>by
   obtain ⟨t,e⟩:=Value.isInt_shape (k:=i) (v:=v) h
   exact .inl ⟨i,t,rfl,e⟩
 | .inr x,v,h=>by
   obtain ⟨t,e⟩:=Value.isStrOf_shape (x:=x) (v:=v) h
   exact .inr ⟨x,t,rfl,e⟩
theorem key_ll (a b:Int):decide ((Sum.inl a:Key) = Sum.inl b) = (a == b):=by
 by_cases e:a = b
 · subst e;simp
 · have h:¬ (Sum.inl a:Key) = Sum.inl b:=fun q=>e (Sum.inl.inj q)
   rw [decide_eq_false h]
   exact (beq_eq_false_iff_ne.mpr e).symm
theorem key_rr (a b:Str):decide ((Sum.inr a:Key) = Sum.inr b) = decide (a = b):=by
 by_cases e:a = b
 · subst e;simp
 · have h:¬ (Sum.inr a:Key) = Sum.inr b:=fun q=>e (Sum.inr.inj q)
   rw [decide_eq_false h,decide_eq_false e]
theorem key_lr (a:Int) (b:Str):decide ((Sum.inl a:Key) = Sum.inr b) = false:=decide_eq_false (fun q=>nomatch q)
theorem key_rl (a:Str) (b:Int):decide ((Sum.inr a:Key) = Sum.inl b) = false:=decide_eq_false (fun q=>nomatch q)
def mixKind (prog:Program) (w:World):PySem.KeyKind prog w Key where
 is:=keyIs
 hash:=keyH w
 inj:=fun v a b ha hb=>by
  rcases keyIs_shape ha with ⟨i,t,rfl,rfl⟩ | ⟨x,t,rfl,rfl⟩
  · rcases keyIs_shape hb with ⟨j,u,rfl,e⟩ | ⟨y,u,rfl,e⟩
    · injection e with e1 _;rw [e1]
    · exact nomatch e
  · rcases keyIs_shape hb with ⟨j,u,rfl,e⟩ | ⟨y,u,rfl,e⟩
    · exact nomatch e
    · injection e with e1 _;rw [e1]
 byValue:=fun k v h=>by
  rcases keyIs_shape h with ⟨i,t,rfl,rfl⟩ | ⟨x,t,rfl,rfl⟩<;>rfl
 pyHash:=fun hv h=>by
  rcases keyIs_shape hv with ⟨i,t,rfl,rfl⟩ | ⟨x,t,rfl,rfl⟩
  · exact wpAny_pyHash_int h
  · exact wpAny_pyHash_str h
 eqBool:=fun hu hv h=>by
  rcases keyIs_shape hu with ⟨i,t,rfl,rfl⟩ | ⟨x,t,rfl,rfl⟩
  · rcases keyIs_shape hv with ⟨j,u,rfl,rfl⟩ | ⟨y,u,rfl,rfl⟩
    · rw [key_ll] at h;exact wpAny_eqBool_int h
    · rw [key_lr] at h;exact SeqAt.EqAt.int_str i t y u _ _ _ _ h
  · rcases keyIs_shape hv with ⟨j,u,rfl,rfl⟩ | ⟨y,u,rfl,rfl⟩
    · rw [key_rl] at h;exact SeqAt.EqAt.str_int x t j u _ _ _ _ h
    · rw [key_rr] at h;exact wpAny_eqBool_str h
 «strs»:=fun k x t v h=>by
  rcases keyIs_shape h with ⟨i,u,rfl,e⟩ | ⟨y,u,rfl,e⟩
  · exact nomatch e
  · injection e with e1 _
    subst e1
    cases v<;>rfl
end L2
namespace L2
open PySem PySem.Spec PyProof.Rows
inductive V where
 | non | bl (b:Bool) | int (i:Int) | str (x:Str) | byt (b:Array UInt8) | flt (b:UInt64) | ref (a:Addr) | ty (n:String)
 deriving DecidableEq
def RelV:V→Value→Prop
 | .non,u=>u = Value.none
 | .bl b,u=>u = Value.bool b
 | .int i,u=>∃ t,u = Value.int i t
 | .str x,u=>∃ t,u = Value.str x t
 | .byt b,u=>∃ t,u = Value.bytes b t
 | .flt b,u=>∃ t,u = Value.float b t
 | .ref a,u=>u = Value.ref a
 | .ty n,u=>u = Value.type n
abbrev Vals:List V→List Value→Prop:=Paired RelV
theorem Vals.length {xs:List V} {us:List Value} (r:Vals xs us):xs.length = us.length:=Paired.length r
theorem Vals.get:∀ {xs:List V} {us:List Value} {i:Nat} {x:V},Vals xs us→xs[i]? = some x→∃ u,us[i]? = some u∧RelV x u
 | _,_,_,_,.nil,e=>by simp at e
 | _,_,0,_,.cons r _,e=>by simp at e;subst e;exact ⟨_,rfl,r⟩
 | _,_,i+1,x,.cons _ t,e=>by
   obtain ⟨u,h1,h2⟩:=Vals.get (i:=i) (x:=x) t (by simpa using e)
   exact ⟨u,by simpa using h1,h2⟩
theorem Vals.set {x:V} {u:Value} (r:RelV x u):∀ {xs:List V} {us:List Value} (i:Nat),Vals xs us→Vals (xs.set i x) (us.set i u)
 | _,_,_,.nil=>.nil
 | _,_,0,.cons _ t=>.cons r t
 | _,_,i+1,.cons q t=>.cons q (Vals.set r i t)
theorem Vals.append:∀ {xs ys:List V} {us ws:List Value},Vals xs us→Vals ys ws→Vals (xs++ys) (us++ws)
 | _,_,_,_,.nil,s=>s
 | _,_,_,_,.cons r t,s=>.cons r (Vals.append t s)
theorem Vals.take:∀ {xs:List V} {us:List Value} (n:Nat),Vals xs us→Vals (xs.take n) (us.take n)
 | _,_,0,_=>.nil
 | _,_,_+1,.nil=>.nil
 | _,_,n+1,.cons r t=>.cons r (Vals.take n t)
theorem Vals.drop:∀ {xs:List V} {us:List Value} (n:Nat),Vals xs us→Vals (xs.drop n) (us.drop n)
 | _,_,0,r=>r
 | _,_,_+1,.nil=>.nil
 | _,_,n+1,.cons _ t=>Vals.drop n t
def RelO:Option V→Option Value→Prop
 | some v,some u=>RelV v u
 | none,none=>True
 | _,_=>False
def KV {κ:Type}:List (κ × V)→List (κ × Value)→Prop:=Paired fun (p:κ × V) (q:κ × Value)=>p.1 = q.1∧RelV p.2 q.2
def kV:Key→V
 | .inl i=>.int i
 | .inr x=>.str x
inductive HO where
 | lst (xs:List V)
 | tup (xs:List V)
 | dK (kvs:List (Key × V)) | dT (kvs:List (List Key × V))
 | set (S:Int→Bool) (n:Nat)
 | ins (C dx:Addr) (fs:List (Str × V))
 | own (x:Addr)
 | xd (fs:List (Str × V))
 | met (f x:Addr)
 | rng (lo hi:Int)
 | frz (o:Obj) (u:HO)
 | tbl (ps:Array Value)
 | ext (φ:Heap→Prop)
abbrev Hp:=Addr→Option HO
def upd (H:Hp) (a:Addr) (o:HO):Hp:=fun b=>if b = a then some o else H b
theorem upd_same {H:Hp} {a:Addr} {o:HO}:upd H a o a = some o:=by unfold upd;rw [if_pos rfl]
theorem upd_ne {H:Hp} {a b:Addr} {o:HO} (h:b≠a):upd H a o b = H b:=by unfold upd;rw [if_neg h]
theorem ne_of_none {H:Hp} {a b:Addr} {o:HO} (h:H a = some o) (h':H b = none):a≠b:=by
 intro e;subst e;rw [h] at h';cases h'
section
variable (P:Program) (w:World)
def ObjOk (H:Hp) (h:Heap) (a:Addr):HO→Prop
 | .lst xs=>xs.length≤sizeLine∧∃ (its:List Value) (n:Nat),Vals xs its∧h.get? a = some { cls:=.type "list",data:=.seq its.toArray n }
 | .tup xs=>xs.length≤sizeLine∧∃ its:List Value,Vals xs its∧IsTup h a its.toArray
 | .dK kvs=>kvs.length≤sizeLine∧(a == sysModules) = false∧∃ vs,KV kvs vs∧h.DictOf (mixKind P w) a vs
 | .dT kvs=>kvs.length≤sizeLine∧(a == sysModules) = false∧∃ xs:List (List Key × Addr × Value),
    Paired (fun (p:List Key × V) (q:List Key × Addr × Value)=>p.1 = q.1∧H q.2.1 = some (.tup (p.1.map kV))∧RelV p.2 q.2.2) kvs xs ∧
    ∃ o es ep,h.get? a = some o∧o.ExactDict∧o.data = .dict es ep∧es.toList = xs.map (entryOfKey (tupleKind (mixKind P w)))∧(xs.map (·.1)).Nodup
 | .set S n=>h.SetOf (intKind P w) a S n
 | .ins C dx fs=>H dx = some (.own a)∧fs.length≤1000∧dx≠a∧h.get? a = some (PySem.W.instObj C dx) ∧
    ∃ mA,h.Ns1 dx mA∧(∀ f,RelO (fs.lookup f) (mA f))∧PySem.Within mA (fs.map (·.1))
 | .own _=>∃ o,h.get? a = some o
 | .xd fs=>∃ mA,h.Ns1 a mA∧∀ f,RelO (fs.lookup f) (mA f)
 | .rng lo hi=>∃ t u v,h.get? a = some { cls:=.type "range",data:=.fields #[.int lo t,.int hi u,.int 1 v] }
 | .frz o u=>h.get? a = some o∧ObjOk H h a u
 | .tbl ps=>h.get? a = some { cls:=.none,data:=.fields ps }
 | .met f x=>h.get? a = some (PySem.W.methodObj (.ref f) (.ref x))
 | .ext φ=>φ h∧(∃ o,h.get? a = some o)∧∀ h1 h2:Heap,φ h1→(∀ o,h1.get? a = some o→h2.get? a = some o)→φ h2
def HOk (H:Hp) (h:Heap):Prop:=∀ a o,H a = some o→ObjOk P w H h a o
end
section
variable {P:Program} {w:World} {H H':Hp} {h h':Heap} {a:Addr} {o:HO}
theorem ObjOk.lt (x:ObjOk P w H h a o):a < h.objs.size:=by
 cases o with
 | lst xs=>obtain ⟨_,_,_,_,e⟩:=x;exact Heap.lt_size e
 | tup xs=>obtain ⟨_,_,_,p⟩:=x;exact p.lt
 | dK kvs=>obtain ⟨_,_,_,_,o,_,_,e,_⟩:=x;exact Heap.lt_size e
 | dT kvs=>obtain ⟨_,_,_,_,o,_,_,e,_⟩:=x;exact Heap.lt_size e
 | set S n=>obtain ⟨o,_,_,_,e,_⟩:=x;exact Heap.lt_size e
 | ins C dx fs=>obtain ⟨_,_,_,e,_⟩:=x;exact Heap.lt_size e
 | own y=>obtain ⟨_,e⟩:=x;exact Heap.lt_size e
 | xd fs=>obtain ⟨_,⟨_,_,_,e,_⟩,_⟩:=x;exact Heap.lt_size e
 | rng lo hi=>obtain ⟨_,_,_,e⟩:=x;exact Heap.lt_size e
 | frz ob u=>obtain ⟨e,_⟩:=x;exact Heap.lt_size e
 | tbl ps=>exact Heap.lt_size (show h.get? a = some _ from x)
 | met f y=>exact Heap.lt_size (show h.get? a = some _ from x)
 | ext φ=>obtain ⟨_,⟨_,e⟩,_⟩:=x;exact Heap.lt_size e
theorem Paired.mapP {α β:Type} {F G:α→β→Prop}:∀ {l₁:List α} {l₂:List β},Paired F l₁ l₂→(∀ a b,F a b→G a b)→Paired G l₁ l₂
 | _,_,.nil,_=>.nil
 | _,_,.cons r t,f=>.cons (f _ _ r) (Paired.mapP t f)
theorem ObjOk.stay (x:ObjOk P w H h a o) (k:∀ b u,(b = a∨H b = some (.own a))→h.get? b = some u→h'.get? b = some u)
 (ho:∀ b,H b = some (.own a)→H' b = some (.own a)) (ht:∀ b xs,H b = some (.tup xs)→H' b = some (.tup xs)):ObjOk P w H' h' a o:=by
 induction o with
 | lst xs=>obtain ⟨z,its,n,r,e⟩:=x;exact ⟨z,its,n,r,k _ _ (.inl rfl) e⟩
 | tup xs=>obtain ⟨z,its,r,ob,e,c⟩:=x;exact ⟨z,its,r,ob,k _ _ (.inl rfl) e,c⟩
 | dK kvs=>obtain ⟨z,y,vs,r,ob,es,ep,e,c⟩:=x;exact ⟨z,y,vs,r,ob,es,ep,k _ _ (.inl rfl) e,c⟩
 | dT kvs =>
   obtain ⟨z,y,xs,r,ob,es,ep,e,c⟩:=x
   exact ⟨z,y,xs,Paired.mapP r fun p q z=>⟨z.1,ht _ _ z.2.1,z.2.2⟩,ob,es,ep,k _ _ (.inl rfl) e,c⟩
 | set S n=>obtain ⟨ob,es,ep,t,e,c⟩:=x;exact ⟨ob,es,ep,t,k _ _ (.inl rfl) e,c⟩
 | ins C dx fs =>
   obtain ⟨d,z,ne,e,mA,⟨od,es,ep,e2,c⟩,r⟩:=x
   exact ⟨ho _ d,z,ne,k _ _ (.inl rfl) e,mA,⟨od,es,ep,k _ _ (.inr d) e2,c⟩,r⟩
 | own y=>obtain ⟨ob,e⟩:=x;exact ⟨ob,k _ _ (.inl rfl) e⟩
 | xd fs=>obtain ⟨mA,⟨od,es,ep,e,c⟩,r⟩:=x;exact ⟨mA,⟨od,es,ep,k _ _ (.inl rfl) e,c⟩,r⟩
 | rng lo hi=>obtain ⟨t,u,v,e⟩:=x;exact ⟨t,u,v,k _ _ (.inl rfl) e⟩
 | frz ob u ih=>obtain ⟨e,q⟩:=x;exact ⟨k _ _ (.inl rfl) e,ih q⟩
 | tbl ps =>
   have e:h.get? a = some { cls:=.none,data:=.fields ps }:=x
   show h'.get? a = some { cls:=.none,data:=.fields ps }
   exact k a _ (.inl rfl) e
 | met f y =>
   have e:h.get? a = some (PySem.W.methodObj (.ref f) (.ref y)):=x
   show h'.get? a = some (PySem.W.methodObj (.ref f) (.ref y))
   exact k a _ (.inl rfl) e
 | ext φ=>obtain ⟨p,⟨o,e⟩,st⟩:=x;exact ⟨st _ _ p fun o q=>k _ _ (.inl rfl) q,⟨o,k _ _ (.inl rfl) e⟩,st⟩
theorem HOk.lt (x:HOk P w H h) (e:H a = some o):a < h.objs.size:=(x a o e).lt
theorem HOk.fresh (x:HOk P w H h) (e:h.objs.size≤a):H a = none:=by
 cases q:H a with
 | none=>rfl
 | some u=>exact absurd (Nat.lt_of_lt_of_le (x.lt q) e) (Nat.lt_irrefl _)
theorem HOk.kept (x:HOk P w H h) (k:∀ b u,h.get? b = some u→h'.get? b = some u):HOk P w H h':=fun a o e =>
 (x a o e).stay (fun b u _ q=>k b u q) (fun _ q=>q) fun _ _ q=>q
theorem HOk.laid (x:HOk P w H h) (k:∀ b u,h.get? b = some u→h'.get? b = some u) (hp:h.objs.size≤a) (new:ObjOk P w (upd H a o) h' a o):HOk P w (upd H a o) h':=fun b u e=>by
 have hn:=x.fresh hp
 by_cases hb:b = a
 · subst hb;rw [upd_same] at e;cases e;exact new
 · rw [upd_ne hb] at e
   exact (x b u e).stay (fun c v _ q=>k c v q) (fun c q=>by rw [upd_ne (ne_of_none q hn)];exact q) fun c xs q=>by rw [upd_ne (ne_of_none q hn)];exact q
end
def Rd (H:Hp) (a:Addr) (u:HO):Prop:=H a = some u∨∃ o,H a = some (.frz o u)
theorem Rd.ok {P:Program} {w:World} {H:Hp} {h:Heap} {a:Addr} {u:HO} (r:Rd H a u) (x:HOk P w H h):ObjOk P w H h a u:=by
 rcases r with r | ⟨o,r⟩
 · exact x a u r
 · obtain ⟨_,q⟩:=x a _ r
   exact q
def Mut:Option HO→Prop
 | some (.lst _)=>True
 | some (.dK _)=>True
 | some (.dT _)=>True
 | some (.set _ _)=>True
 | some (.ins _ _ _)=>True
 | some (.ext _)=>True
 | _=>False
section
variable {P:Program} {w:World} {H:Hp} {h h':Heap} {x e:Addr} {o':HO}
theorem HOk.write (ok:HOk P w H h) (mu:Mut (H x)) (he:e = x∨H e = some (.own x)) (k:∀ b u,b≠e→h.get? b = some u→h'.get? b = some u) (heo:∃ u,h'.get? e = some u)
 (new:ObjOk P w (upd H x o') h' x o'):HOk P w (upd H x o') h':=fun b u q=>by
 have nown:∀ c y,H c = some (.own y)→c≠x:=fun c y r z=>by subst z;rw [r] at mu;exact mu
 have ntup:∀ c xs,H c = some (.tup xs)→c≠x:=fun c xs r z=>by subst z;rw [r] at mu;exact mu
 by_cases hb:b = x
 · subst hb;rw [upd_same] at q;cases q;exact new
 · rw [upd_ne hb] at q
   by_cases hbe:b = e
   · have q':H b = some (.own x):=by
      rcases he with z | z
      · exact absurd (hbe.trans z) hb
      · rw [hbe];exact z
     rw [q] at q';cases q'
     obtain ⟨v,hv⟩:=heo
     exact ⟨v,by rw [hbe];exact hv⟩
   · refine (ok b u q).stay (fun c v hc r=>k c v ?_ r) (fun c r=>by rw [upd_ne (nown c b r)];exact r) fun c xs r=>by rw [upd_ne (ntup c xs r)];exact r
     rcases hc with rfl | hc
     · exact hbe
     · rintro rfl
       rcases he with z | z
       · exact nown c b hc z
       · rw [hc] at z;cases z;exact hb rfl
end
structure Un (fs ex:List Addr) (H H':Hp) (h h':Heap):Prop where
 keep:∀ b o,h.get? b = some o→H b = none→b∉fs→b∉ex→h'.get? b = some o
 slot:∀ b o,h.get? b = some o→H b = none→b∈fs→b∉ex→∃ sl,h'.get? b = some { o with slots:=sl }
 free:∀ b o,h.get? b = some o→H b = none→b∉ex→H' b = none
 there:∀ b o,h.get? b = some o→b∉ex→∃ o',h'.get? b = some o'
 tups:∀ b xs,H b = some (.tup xs)→H' b = some (.tup xs)
 frzs:∀ b o u,H b = some (.frz o u)→H' b = some (.frz o u)
 tbls:∀ b ps,H b = some (.tbl ps)→∃ more,H' b = some (.tbl (ps++more))
section
variable {fs fs' ex ex':List Addr} {H H1 H2:Hp} {h h1 h2 h':Heap} {a x e:Addr} {o:HO}
theorem Un.any (u:Un fs ex H H1 h h1) {b:Addr} {ob:Obj} (q:h.get? b = some ob) (n:H b = none) (hx:b∉ex):∃ sl,h1.get? b = some { ob with slots:=sl }:=by
 by_cases hb:b∈fs
 · exact u.slot b ob q n hb hx
 · exact ⟨ob.slots,u.keep b ob q n hb hx⟩
theorem Un.kept (k:∀ b u,h.get? b = some u→h'.get? b = some u):Un fs ex H H h h' :=
 ⟨fun b ob q _ _ _=>k b ob q,fun b ob q _ _ _=>⟨ob.slots,k b ob q⟩,fun _ _ _ n _=>n,fun b ob q _=>⟨ob,k b ob q⟩,fun _ _ q=>q,fun _ _ _ q=>q,fun _ ps q=>⟨#[],by rw [q];simp⟩⟩
theorem Un.refl:Un fs ex H H h h:=Un.kept fun _ _ q=>q
theorem Un.laid (k:∀ b u,h.get? b = some u→h'.get? b = some u) (hp:h.objs.size≤a) (hn:H a = none):Un fs ex H (upd H a o) h h' where
 keep:=fun b u q _ _ _=>k b u q
 slot:=fun b u q _ _ _=>⟨u.slots,k b u q⟩
 free:=fun b u q n _=>by rw [upd_ne (Nat.ne_of_lt (Nat.lt_of_lt_of_le (Heap.lt_size q) hp))];exact n
 there:=fun b u q _=>⟨u,k b u q⟩
 tups:=fun b xs q=>by rw [upd_ne (ne_of_none q hn)];exact q
 frzs:=fun b u xs q=>by rw [upd_ne (ne_of_none q hn)];exact q
 tbls:=fun b ps q=>⟨#[],by rw [upd_ne (ne_of_none q hn),q];simp⟩
theorem Un.write (mu:Mut (H x)) (he:e = x∨H e = some (.own x)) (k:∀ b u,b≠e→h.get? b = some u→h'.get? b = some u) (heo:∃ u,h'.get? e = some u):Un fs ex H (upd H x o) h h':=by
 have hx:∀ b,H b = none→b≠x:=fun b n z=>by subst z;rw [n] at mu;exact mu
 have hb:∀ b,H b = none→b≠e:=fun b n z=>by
  subst z
  rcases he with r | r
  · exact hx b n r
  · rw [n] at r;cases r
 have hm:∀ b u,H b = some u→¬ Mut (some u)→b≠x:=fun b u q nm z=>by subst z;rw [q] at mu;exact nm mu
 refine ⟨fun b u q n _ _=>k b u (hb b n) q,fun b u q n _ _=>⟨u.slots,k b u (hb b n) q⟩,fun b u q n _=>by rw [upd_ne (hx b n)];exact n,fun b u q _=>?_,
  fun b xs q=>by rw [upd_ne (hm b _ q fun z=>z)];exact q,fun b u xs q=>by rw [upd_ne (hm b _ q fun z=>z)];exact q,fun b ps q=>⟨#[],by rw [upd_ne (hm b _ q fun z=>z),q];simp⟩⟩
 by_cases hbe:b = e
 · subst hbe;exact heo
 · exact ⟨u,k b u hbe q⟩
end
def trk (h:Heap) (H:Hp):List Addr:=(List.range h.objs.size).filter fun a=>(H a).isSome
def hidT (h:Heap) (H:Hp):Heap:=PySem.W.hideAll h (trk h H)
theorem hidT_size (h:Heap) (H:Hp):(hidT h H).objs.size = h.objs.size:=PySem.W.hideAll_size _ _
theorem hidT_get {h:Heap} {H:Hp} {b:Addr} {o:Obj} (e:h.get? b = some o) (n:H b = none):(hidT h H).get? b = some o :=
 PySem.W.hideAll_get _ e fun hm=>by
  have q:(H b).isSome = true:=(List.mem_filter.mp hm).2
  rw [n] at q;simp at q
theorem of_hidT {h:Heap} {H:Hp} {b:Addr} {o:Obj} (e:(hidT h H).get? b = some o):h.get? b = some o∧H b = none:=by
 have e':h.get? b = some o:=PySem.W.of_hideAll (trk h H) e
 refine ⟨e',?_⟩
 cases q:H b with
 | none=>rfl
 | some x =>
   have hm:b∈trk h H:=List.mem_filter.mpr ⟨List.mem_range.mpr (Heap.lt_size e'),by simp [q]⟩
   have z:(hidT h H).get? b = none:=PySem.W.hideAll_none (trk h H) hm
   rw [z] at e;cases e
end L2
namespace L2
open PySem PySem.Spec PyProof.Rows
structure Mod (K:PySem.W.Frag) (mg:Str→Option Value) (base:Heap):Prop where
 kin:K.In base
 glob:base.Ns mainGlobals mg
 blt:∃ mb,base.Ns builtinsNs mb∧∀ x:Str,x≠"__name__"→mb x = bootBuiltins x
 nolimit:base.NoLimit
structure Cx where
 prog:Program
 w:World
 K:PySem.W.Frag
 mg:Str→Option Value
 base:Heap
 A:Around
 N:List Str
 s₀:Shared
 H₀:Hp
 env:Env
 outer:List Env
 stack:List Env
 ex:List Addr
 fn:Str→Bool
 calm:Bool
 pn:List (Addr × Obj)
 xe:Value→Shared→Prop
def frs (l:List Env):List Addr:=l.filterMap (·.frame)
abbrev Cx.fs (X:Cx):List Addr:=frs X.outer
def Vis (sc:Scope) (x:Str):Prop:=sc.names.lookup x = some .local∨sc.names.lookup x = some .cell∨sc.names.lookup x = some .free
def Loc (sc:Scope) (x:Str):Prop:=sc.names.lookup x = some .local∨sc.names.lookup x = some .cell
def Look (env:Env) (h:Heap) (m:Str→Option Value) (x:Str) (u:Value):Prop :=
 (env.kindOf x = some .local∧m x = some u)∨((env.kindOf x = some .cell∨env.kindOf x = some .free)∧∃ c,env.cells.lookup x = some c∧h.IsCell c (some u))
structure Cx.Ok (X:Cx):Prop where
 mod:Mod X.K X.mg X.base
 kind:X.env.scope.kind = .function
 glob:X.env.globals = mainGlobals
 blt:X.env.builtins = builtinsNs
 above:X.s₀.heap.objs.size≤X.env.locals
 inj:∀ x y c,X.env.cells.lookup x = some c→X.env.cells.lookup y = some c→x = y
 has:∀ x,(X.env.kindOf x = some .cell∨X.env.kindOf x = some .free)→∃ c,X.env.cells.lookup x = some c
 cab:∀ x c,X.fn x = true→X.env.cells.lookup x = some c→X.s₀.heap.objs.size≤c
 hd:X.calm = true→X.A.handled = none
 frames:X.A.frames = some X.stack
 stk:X.stack = X.outer∨(X.stack = X.env::X.outer∧X.env.frame = some X.env.locals)
 exf:∀ b∈X.ex,b≠X.env.locals∧∀ x c,X.env.cells.lookup x = some c→c≠b
 bs:∀ b o,X.base.get? b = some o→X.s₀.heap.get? b = some o∧X.H₀ b = none
 bsz:X.base.objs.size≤X.s₀.heap.objs.size
 noex:∀ b o,X.base.get? b = some o→b∉X.ex
 exfs:∀ b∈X.ex,b∉X.fs
 funs:X.s₀.heap.FunFrames X.base X.outer
 frf:∀ b∈X.fs,X.H₀ b = none
structure Inv (X:Cx) (pins:List (Addr × Obj)) (σ:List (Option V)) (H:Hp) (s:Shared):Prop where
 ok:X.Ok
 os:s.os = X.s₀.os
 bare:AllBare s.gens
 base:Un X.fs X.ex X.H₀ H X.s₀.heap s.heap
 loc:∃ m,s.heap.Ns X.env.locals m∧∀ (i:Nat) (x:Str) (v:V),X.N[i]? = some x→σ[i]? = some (some v)→Vis X.env.scope x→∃ u,RelV v u∧Look X.env s.heap m x u
 cell:∀ x c,X.env.cells.lookup x = some c→∃ v,s.heap.IsCell c v
 free:H X.env.locals = none
 freeC:∀ x c,X.env.cells.lookup x = some c→H c = none
 pin:∀ p∈X.pn++pins,s.heap.get? p.1 = some p.2∧H p.1 = none∧p.1≠X.env.locals∧p.1∉X.fs∧∀ v,p.2.data≠.cell v
 hok:HOk X.prog X.w H s.heap
 len:σ.length = X.N.length
section
variable {X:Cx} {pins:List (Addr × Obj)} {σ:List (Option V)} {H H':Hp} {s:Shared} {h':Heap}
theorem Cx.Ok.nofr (ok:X.Ok) {b:Addr} {o:Obj} (e:X.base.get? b = some o):b∉X.fs:=fun hb=>by
 have:=(ok.funs.mem hb).1
 rw [e] at this;cases this
theorem Inv.bs (I:Inv X pins σ H s):∀ b o,X.base.get? b = some o→s.heap.get? b = some o∧H b = none:=fun b o e =>
 ⟨I.base.keep b o (I.ok.bs b o e).1 (I.ok.bs b o e).2 (I.ok.nofr e) (I.ok.noex b o e),I.base.free b o (I.ok.bs b o e).1 (I.ok.bs b o e).2 (I.ok.noex b o e)⟩
theorem Inv.bk (I:Inv X pins σ H s):∀ b o,X.base.get? b = some o→s.heap.get? b = some o:=fun b o e=>(I.bs b o e).1
theorem Inv.mod (I:Inv X pins σ H s):Mod X.K X.mg X.base:=I.ok.mod
theorem Inv.kIn (I:Inv X pins σ H s):X.K.In s.heap:=I.ok.mod.kin.keeps I.bk
theorem Inv.lt (I:Inv X pins σ H s):X.env.locals < s.heap.objs.size:=let ⟨_,hn,_⟩:=I.loc;hn.lt
theorem Inv.sz (I:Inv X pins σ H s):X.s₀.heap.objs.size≤s.heap.objs.size:=Nat.le_trans I.ok.above (Nat.le_of_lt I.lt)
theorem Inv.nofs (I:Inv X pins σ H s) {a:Addr} (h:s.heap.objs.size≤a):a∉X.fs:=fun hb=>by
 obtain ⟨_,o,ho,_⟩:=I.ok.funs.mem hb
 exact absurd (Nat.lt_of_lt_of_le (Heap.lt_size ho) (Nat.le_trans I.sz h)) (Nat.lt_irrefl _)
theorem Inv.cne (I:Inv X pins σ H s):∀ x c,X.env.cells.lookup x = some c→c≠X.env.locals:=fun x c e z=>by
 obtain ⟨v,o,ho,hd⟩:=I.cell x c e
 obtain ⟨m,⟨o',es,ep,ho',hd',_⟩,_⟩:=I.loc
 rw [z,ho'] at ho;cases ho;rw [hd'] at hd;cases hd
theorem Inv.funs (I:Inv X pins σ H s):s.heap.FunFrames X.base X.outer:=by
 have all:∀ (l:List Env),(∀ b∈frs l,b∈X.fs)→X.s₀.heap.FunFrames X.base l→s.heap.FunFrames X.base l:=by
  intro l
  induction l with
  | nil=>intro _ _;trivial
  | cons env r ih =>
    intro hs hl
    obtain ⟨hk,⟨L,o,hf,hn,ho,hd⟩,hr⟩:=hl
    have hL:L∈X.fs:=hs L (by unfold frs;rw [List.filterMap_cons,hf];exact List.mem_cons_self)
    obtain ⟨sl,e⟩:=I.base.slot L o ho (I.ok.frf L hL) hL fun z=>I.ok.exfs L z hL
    exact ⟨hk,⟨L,_,hf,hn,e,hd⟩,ih (fun b hb=>hs b (by unfold frs;rw [List.filterMap_cons,hf];exact List.mem_cons_of_mem _ hb)) hr⟩
 exact all X.outer (fun _ hb=>hb) I.ok.funs
theorem Inv.stack (I:Inv X pins σ H s):s.heap.FunFrames X.base X.stack:=by
 rcases I.ok.stk with e | ⟨e,hf⟩
 · rw [e];exact I.funs
 · rw [e]
   obtain ⟨m,hn,_⟩:=I.loc
   refine .cons (by rw [I.ok.kind];decide) hf hn ?_ I.funs
   exact Heap.get?_none_of_le (Nat.le_trans I.ok.bsz I.ok.above)
theorem Inv.stkSub (I:Inv X pins σ H s):∀ b∈frs X.stack,b∈X.env.locals::X.fs:=fun b hb=>by
 rcases I.ok.stk with e | ⟨e,hf⟩
 · rw [e] at hb;exact List.mem_cons_of_mem _ hb
 · rw [e] at hb
   unfold frs at hb
   rw [List.filterMap_cons,hf] at hb
   exact hb
theorem Inv.stkFree (I:Inv X pins σ H s):∀ b∈frs X.stack,H b = none:=fun b hb=>by
 rcases List.mem_cons.mp (I.stkSub b hb) with e | hb
 · rw [e];exact I.free
 · obtain ⟨_,o,ho,_⟩:=I.ok.funs.mem hb
   exact I.base.free b o ho (I.ok.frf b hb) fun z=>I.ok.exfs b z hb
theorem Inv.step {g':Array GenState} {t':Nat} {d':Drawn} {ch:List Addr} (I:Inv X pins σ H s)
 (hch:∀ b∈ch,(b∈X.ex∨X.s₀.heap.objs.size≤b)∧b≠X.env.locals∧(∀ x c,X.env.cells.lookup x = some c→c≠b)∧∀ p∈X.pn++pins,p.1≠b)
 (keep:∀ b o,b≠X.env.locals→b∉X.fs→b∉ch→s.heap.get? b = some o→H b = none→h'.get? b = some o)
 (slot:∀ b o,b≠X.env.locals→b∈X.fs→b∉ch→s.heap.get? b = some o→H b = none→∃ sl,h'.get? b = some { o with slots:=sl }) (free:∀ b o,b∉ch→s.heap.get? b = some o→H b = none→H' b = none)
 (there:∀ b o,b∉ch→s.heap.get? b = some o→∃ o',h'.get? b = some o')
 (tups:∀ b xs,H b = some (.tup xs)→H' b = some (.tup xs)) (frzs:∀ b o u,H b = some (.frz o u)→H' b = some (.frz o u)) (tbls:∀ b ps,H b = some (.tbl ps)→∃ more,H' b = some (.tbl (ps++more)))
 (ns:∀ m,s.heap.Ns X.env.locals m→h'.Ns X.env.locals m) (hok:HOk X.prog X.w H' h') (hg:AllBare g') :
 Inv X pins σ H' { s with heap:=h',gens:=g',drawn:=d',toks:=t' }:=by
 have neL:∀ b o,X.s₀.heap.get? b = some o→b≠X.env.locals:=fun b o e=>Nat.ne_of_lt (Nat.lt_of_lt_of_le (Heap.lt_size e) I.ok.above)
 have neC:∀ b o,X.s₀.heap.get? b = some o→b∉X.ex→b∉ch:=fun b o e hx hb=>by
  rcases (hch b hb).1 with z | z
  · exact hx z
  · exact absurd (Nat.lt_of_lt_of_le (Heap.lt_size e) z) (Nat.lt_irrefl _)
 have cellK:∀ x c,X.env.cells.lookup x = some c→∀ v,s.heap.IsCell c v→h'.IsCell c v:=fun x c e v ⟨o,ho,hd⟩=>by
  have nch:c∉ch:=fun z=>(hch c z).2.2.1 x c e rfl
  by_cases hc:c∈X.fs
  · obtain ⟨sl,q⟩:=slot c o (I.cne x c e) hc nch ho (I.freeC x c e)
    exact ⟨_,q,hd⟩
  · exact ⟨o,keep c o (I.cne x c e) hc nch ho (I.freeC x c e),hd⟩
 refine ⟨I.ok,I.os,hg,⟨fun b o e n hb hx=>?_,fun b o e n hb hx=>?_,fun b o e n hx=>?_,fun b o e hx=>?_,fun b xs e=>tups b xs (I.base.tups b xs e),fun b o xs e=>frzs b o xs (I.base.frzs b o xs e),fun b ps e=>?_⟩,?_,fun x c e=>?_,?_,fun x c e=>?_,fun p hp=>?_,hok,I.len⟩
 · exact keep b o (neL b o e) hb (neC b o e hx) (I.base.keep b o e n hb hx) (I.base.free b o e n hx)
 · obtain ⟨sl,e1⟩:=I.base.slot b o e n hb hx
   obtain ⟨sl',e2⟩:=slot b _ (neL b o e) hb (neC b o e hx) e1 (I.base.free b o e n hx)
   exact ⟨sl',e2⟩
 · obtain ⟨o',e1⟩:=I.base.there b o e hx
   exact free b o' (neC b o e hx) e1 (I.base.free b o e n hx)
 · obtain ⟨o',e1⟩:=I.base.there b o e hx
   exact there b o' (neC b o e hx) e1
 · obtain ⟨m1,e1⟩:=I.base.tbls b ps e
   obtain ⟨m2,e2⟩:=tbls b _ e1
   exact ⟨m1++m2,by rw [e2,Array.append_assoc]⟩
 · obtain ⟨m,hn,hl⟩:=I.loc
   refine ⟨m,ns m hn,fun i x v e1 e2 e3=>?_⟩
   obtain ⟨u,r,l⟩:=hl i x v e1 e2 e3
   refine ⟨u,r,?_⟩
   rcases l with l | ⟨k,c,e,z⟩
   · exact .inl l
   · exact .inr ⟨k,c,e,cellK x c e _ z⟩
 · obtain ⟨v,z⟩:=I.cell x c e
   exact ⟨v,cellK x c e v z⟩
 · obtain ⟨m,⟨o,_,_,ho,_⟩,_⟩:=I.loc
   exact free _ o (fun z=>(hch _ z).2.1 rfl) ho I.free
 · obtain ⟨v,o,ho,hd⟩:=I.cell x c e
   exact free c o (fun z=>(hch c z).2.2.1 x c e rfl) ho (I.freeC x c e)
 · obtain ⟨e,n,ne,nf,d⟩:=I.pin p hp
   have nch:p.1∉ch:=fun z=>(hch p.1 z).2.2.2 p hp rfl
   exact ⟨keep p.1 p.2 ne nf nch e n,free p.1 p.2 nch e n,ne,nf,d⟩
theorem Inv.un {t':Nat} (I:Inv X pins σ H s) (u:Un X.fs [] H H' s.heap h') (hok:HOk X.prog X.w H' h'):Inv X pins σ H' { s with heap:=h',toks:=t' }:=by
 obtain ⟨m,⟨o,es,ep,ho,r⟩,_⟩:=id I.loc
 obtain ⟨sl,hL⟩:=u.any ho I.free (by simp)
 exact I.step (g':=s.gens) (d':=s.drawn) (ch:=[]) (fun _ z=>nomatch z) (fun b o _ hb _ e n=>u.keep b o e n hb (by simp)) (fun b o _ hb _ e n=>u.slot b o e n hb (by simp)) (fun b o _ e n=>u.free b o e n (by simp)) (fun b o _ e=>u.there b o e (by simp)) u.tups u.frzs u.tbls (fun m' hm=>by
  obtain ⟨o',es',ep',ho',r'⟩:=hm
  rw [ho] at ho';cases ho'
  exact ⟨_,es',ep',hL,r'⟩) hok I.bare
theorem Inv.call {g':Array GenState} {t':Nat} {d':Drawn} {ch:List Addr} (I:Inv X pins σ H s) (u:Un (frs X.stack) ch H H' s.heap h') (hok:HOk X.prog X.w H' h') (hg:AllBare g')
 (hch:∀ b∈ch,(b∈X.ex∨X.s₀.heap.objs.size≤b)∧b≠X.env.locals∧(∀ x c,X.env.cells.lookup x = some c→c≠b)∧∀ p∈X.pn++pins,p.1≠b) :
 Inv X pins σ H' { s with heap:=h',gens:=g',drawn:=d',toks:=t' }:=by
 obtain ⟨m,⟨o,es,ep,ho,r⟩,_⟩:=id I.loc
 obtain ⟨sl,hL⟩:=u.any ho I.free fun z=>(hch _ z).2.1 rfl
 exact I.step (ch:=ch) hch (fun b o hL hb hc e n=>u.keep b o e n (fun z=>(List.mem_cons.mp (I.stkSub b z)).elim hL hb) hc) (fun b o _ _ hc e n=>u.any e n hc) (fun b o hc e n=>u.free b o e n hc) (fun b o hc e=>u.there b o e hc) u.tups u.frzs u.tbls (fun m' hm=>by
  obtain ⟨o',es',ep',ho',r'⟩:=hm
  rw [ho] at ho';cases ho'
  exact ⟨_,es',ep',hL,r'⟩) hok hg
theorem Inv.turned {t':Nat} {it:Addr} (I:Inv X pins σ H s) (k:∀ b o,b≠it→s.heap.get? b = some o→h'.get? b = some o) (hn:H it = none) (hL:it≠X.env.locals)
 (h1:it∈X.ex∨X.s₀.heap.objs.size≤it) (h2:∀ x c,X.env.cells.lookup x = some c→c≠it) (h3:∀ p∈X.pn++pins,p.1≠it):Inv X pins σ H { s with heap:=h',toks:=t' }:=by
 have nit:∀ b u,H b = some u→b≠it:=fun b u e z=>by rw [z,hn] at e;cases e
 refine I.step (g':=s.gens) (d':=s.drawn) (ch:=[it]) (fun b hb=>?_) (fun b o _ _ hc e _=>k b o (fun z=>hc (by simp [z])) e) (fun b o _ _ hc e _=>⟨o.slots,k b o (fun z=>hc (by simp [z])) e⟩) (fun _ _ _ _ n=>n)
  (fun b o hc e=>⟨o,k b o (fun z=>hc (by simp [z])) e⟩) (fun _ _ e=>e) (fun _ _ _ e=>e) (fun b ps e=>⟨#[],by rw [e];simp⟩) (fun m hm=>?_) (fun b u e=>?_) I.bare
 · have e:b = it:=by simpa using hb
   subst e
   exact ⟨h1,hL,h2,h3⟩
 · obtain ⟨o,es,ep,ho,r⟩:=hm
   exact ⟨o,es,ep,k _ o (Ne.symm hL) ho,r⟩
 · refine (I.hok b u e).stay (fun c v hc q=>k c v ?_ q) (fun _ q=>q) fun _ _ q=>q
   rcases hc with z | z
   · rw [z];exact nit b u e
   · exact nit c _ z
theorem Inv.tok (I:Inv X pins σ H s) (t:Nat):Inv X pins σ H { s with toks:=t }:=I.un (h':=s.heap) (t':=t) Un.refl I.hok
theorem Inv.kept {t':Nat} (I:Inv X pins σ H s) (k:∀ b u,s.heap.get? b = some u→h'.get? b = some u):Inv X pins σ H { s with heap:=h',toks:=t' }:=I.un (Un.kept k) (I.hok.kept k)
theorem Inv.laid {a:Addr} {o:HO} {t':Nat} (I:Inv X pins σ H s) (k:∀ b u,s.heap.get? b = some u→h'.get? b = some u) (hp:s.heap.objs.size≤a) (new:ObjOk X.prog X.w (upd H a o) h' a o) :
 Inv X pins σ (upd H a o) { s with heap:=h',toks:=t' }:=I.un (Un.laid k hp (I.hok.fresh hp)) (I.hok.laid k hp new)
theorem Inv.write {x e:Addr} {o:HO} {t':Nat} (I:Inv X pins σ H s) (mu:Mut (H x)) (he:e = x∨H e = some (.own x)) (k:∀ b u,b≠e→s.heap.get? b = some u→h'.get? b = some u) (heo:∃ u,h'.get? e = some u)
 (new:ObjOk X.prog X.w (upd H x o) h' x o):Inv X pins σ (upd H x o) { s with heap:=h',toks:=t' }:=I.un (Un.write mu he k heo) (I.hok.write mu he k heo new)
theorem Inv.pins_of {pins':List (Addr × Obj)} (I:Inv X pins σ H s) (h:∀ p∈pins',s.heap.get? p.1 = some p.2∧H p.1 = none∧p.1≠X.env.locals∧p.1∉X.fs∧∀ v,p.2.data≠.cell v):Inv X pins' σ H s :=
 ⟨I.ok,I.os,I.bare,I.base,I.loc,I.cell,I.free,I.freeC,fun p hp=>(List.mem_append.mp hp).elim (fun z=>I.pin p (List.mem_append_left _ z)) (h p),I.hok,I.len⟩
theorem nodup_ix {N:List Str} (hN:N.Nodup) {i j:Nat} {x:Str} (a:N[i]? = some x) (b:N[j]? = some x):i = j:=by
 obtain ⟨h1,e1⟩:=List.getElem?_eq_some_iff.mp a
 obtain ⟨h2,e2⟩:=List.getElem?_eq_some_iff.mp b
 exact (List.getElem_inj hN).mp (e1.trans e2.symm)
theorem store_ok2 {M:Model} {A:Around} {E:Value→Shared→Prop} {i:Nat} {x:Str} {v:V} {u:Value} {Q:Unit→Shared→Prop} (I:Inv X pins σ H s) (hN:X.N.Nodup) (hi:X.N[i]? = some x) (hx:Loc X.env.scope x) (r:RelV v u)
 (h:∀ s',Inv X pins (σ.set i (some v)) H s'→(∃ a,Heap.SameBut a s.heap s'.heap∧(a = X.env.locals∨X.env.cells.lookup x = some a))→Q () s') (hf:X.fn x = true∨X.env.scope.names.lookup x = some .local:=by first | exact .inl rfl | exact .inr rfl | assumption):wpAny M A (storeName X.env x u) Q E s:=by
 obtain ⟨m,hn,hl⟩:=id I.loc
 have hcls:(X.env.scope.kind == .class || (X.env.scope.kind == .module && X.env.locals != X.env.globals)) = false:=by rw [I.ok.kind];rfl
 have hiσ:i < σ.length:=by rw [I.len];exact (List.getElem?_eq_some_iff.mp hi).1
 have cne:=I.cne
 have tracked:∀ {a:Addr} {h':Heap},(∃ o,s.heap.get? a = some o∧H a = none)→Heap.SameBut a s.heap h'→HOk X.prog X.w H h':=fun {a h'} ha hs b ob e=>by
  obtain ⟨_,_,hfree⟩:=ha
  refine (I.hok b ob e).stay (fun c w' hc q=>(hs.2 c ?_).trans q) (fun _ q=>q) fun _ _ q=>q
  rintro rfl
  rcases hc with rfl | hc
  · rw [hfree] at e;cases e
  · rw [hfree] at hc;cases hc
 rcases hx with hk | hk
 · refine wpAny_storeName_local hk hn (fun h' hn' hs=>?_) hcls
   obtain ⟨oL,_,_,hoL,_⟩:=id hn
   refine h _ ⟨I.ok,I.os,I.bare,⟨fun b o e n hb hx=>?_,fun b o e n hb hx=>?_,I.base.free,fun b o e hx=>?_,I.base.tups,I.base.frzs,I.base.tbls⟩,⟨_,hn',fun j y v' e1 e2 e3=>?_⟩,fun y c e=>?_,I.free,I.freeC,fun p hp=>?_,tracked ⟨oL,hoL,I.free⟩ hs,by simpa using I.len⟩ ⟨_,hs,.inl rfl⟩
   · exact (hs.2 b (Nat.ne_of_lt (Nat.lt_of_lt_of_le (Heap.lt_size e) I.ok.above))).trans (I.base.keep b o e n hb hx)
   · obtain ⟨sl,e1⟩:=I.base.slot b o e n hb hx
     exact ⟨sl,(hs.2 b (Nat.ne_of_lt (Nat.lt_of_lt_of_le (Heap.lt_size e) I.ok.above))).trans e1⟩
   · obtain ⟨o',e1⟩:=I.base.there b o e hx
     exact ⟨o',(hs.2 b (Nat.ne_of_lt (Nat.lt_of_lt_of_le (Heap.lt_size e) I.ok.above))).trans e1⟩
   · by_cases hj:j = i
     · subst hj
       rw [hi] at e1;cases e1
       rw [List.getElem?_set_self hiσ] at e2
       cases e2
       exact ⟨u,r,.inl ⟨hk,by simp⟩⟩
     · rw [List.getElem?_set_ne (Ne.symm hj)] at e2
       obtain ⟨u',r',q⟩:=hl j y v' e1 e2 e3
       refine ⟨u',r',?_⟩
       rcases q with ⟨k,e⟩ | ⟨k,c,e,z⟩
       · refine .inl ⟨k,?_⟩
         have:y≠x:=fun e=>hj (nodup_ix hN e1 (e▸hi))
         simp [this,e]
       · exact .inr ⟨k,c,e,z.sameBut hs (cne y c e)⟩
   · obtain ⟨w',z⟩:=I.cell y c e
     exact ⟨w',z.sameBut hs (cne y c e)⟩
   · obtain ⟨e,n,ne,nf,d⟩:=I.pin p hp
     exact ⟨(hs.2 p.1 ne).trans e,n,ne,nf,d⟩
 · have hfn:X.fn x = true:=by
    rcases hf with z | z
    · exact z
    · rw [z] at hk;cases hk
   obtain ⟨c,hc⟩:=I.ok.has x (.inl hk)
   obtain ⟨w',z⟩:=I.cell x c hc
   refine wpAny_storeName_cell I.ok.kind hk hc z (fun h' hc' hs=>?_)
   obtain ⟨oc,hoc,hocd⟩:=id z
   refine h { s with heap:=h' } ⟨I.ok,I.os,I.bare,⟨fun b o e n hb hx=>?_,fun b o e n hb hx=>?_,I.base.free,fun b o e hx=>?_,I.base.tups,I.base.frzs,I.base.tbls⟩,⟨m,hn.sameBut hs (Ne.symm (cne x c hc)),fun j y v' e1 e2 e3=>?_⟩,fun y c' e=>?_,I.free,I.freeC,fun p hp=>?_,tracked ⟨oc,hoc,I.freeC x c hc⟩ hs,by simpa using I.len⟩ ⟨c,hs,.inr hc⟩
   · exact (hs.2 b (Nat.ne_of_lt (Nat.lt_of_lt_of_le (Heap.lt_size e) (I.ok.cab x c hfn hc)))).trans (I.base.keep b o e n hb hx)
   · obtain ⟨sl,e1⟩:=I.base.slot b o e n hb hx
     exact ⟨sl,(hs.2 b (Nat.ne_of_lt (Nat.lt_of_lt_of_le (Heap.lt_size e) (I.ok.cab x c hfn hc)))).trans e1⟩
   · obtain ⟨o',e1⟩:=I.base.there b o e hx
     exact ⟨o',(hs.2 b (Nat.ne_of_lt (Nat.lt_of_lt_of_le (Heap.lt_size e) (I.ok.cab x c hfn hc)))).trans e1⟩
   · by_cases hj:j = i
     · subst hj
       rw [hi] at e1;cases e1
       rw [List.getElem?_set_self hiσ] at e2
       cases e2
       exact ⟨u,r,.inr ⟨.inl hk,c,hc,hc'⟩⟩
     · rw [List.getElem?_set_ne (Ne.symm hj)] at e2
       obtain ⟨u',r',q⟩:=hl j y v' e1 e2 e3
       refine ⟨u',r',?_⟩
       rcases q with q | ⟨k,c',e,z'⟩
       · exact .inl q
       · refine .inr ⟨k,c',e,z'.sameBut hs ?_⟩
         rintro rfl
         exact hj (nodup_ix hN e1 (I.ok.inj _ _ _ e hc▸hi))
   · by_cases hcc:c' = c
     · subst hcc;exact ⟨_,hc'⟩
     · obtain ⟨w2,z2⟩:=I.cell y c' e
       exact ⟨w2,z2.sameBut hs hcc⟩
   · obtain ⟨e,n,ne,nf,d⟩:=I.pin p hp
     refine ⟨(hs.2 p.1 ?_).trans e,n,ne,nf,d⟩
     intro q
     rw [q,hoc] at e
     have q':oc = p.2:=Option.some.inj e
     exact d w' (by rw [← q'];exact hocd)
theorem store_ok {M:Model} {A:Around} {E:Value→Shared→Prop} {i:Nat} {x:Str} {v:V} {u:Value} {Q:Unit→Shared→Prop} (I:Inv X pins σ H s) (hN:X.N.Nodup) (hi:X.N[i]? = some x) (hx:Loc X.env.scope x) (r:RelV v u)
 (h:∀ s',Inv X pins (σ.set i (some v)) H s'→Q () s') (hf:X.fn x = true∨X.env.scope.names.lookup x = some .local:=by first | exact .inl rfl | exact .inr rfl | assumption):wpAny M A (storeName X.env x u) Q E s :=
 store_ok2 I hN hi hx r (fun s' I' _=>h s' I') hf
theorem Inv.call' {s':Shared} {ch:List Addr} (I:Inv X pins σ H s) (ho:s'.os = s.os) (u:Un (frs X.stack) ch H H' s.heap s'.heap) (hok:HOk X.prog X.w H' s'.heap) (hg:AllBare s'.gens)
 (hch:∀ b∈ch,(b∈X.ex∨X.s₀.heap.objs.size≤b)∧b≠X.env.locals∧(∀ x c,X.env.cells.lookup x = some c→c≠b)∧∀ p∈X.pn++pins,p.1≠b):Inv X pins σ H' s':=by
 obtain ⟨h',g',d',t',o'⟩:=s'
 have e:o' = s.os:=ho
 subst e
 exact I.call (g':=g') (t':=t') (d':=d') u hok hg hch
end
abbrev XK:=Value→Option Addr→Hp→Prop
abbrev St:=List (Option V)
abbrev VK:=V→Hp→Prop
abbrev TE:=St→Hp→VK→Prop
abbrev TT:=St→Hp→(Bool→Hp→Prop)→Prop
abbrev TA:=St→Hp→(List V→Hp→Prop)→Prop
structure Ends where
 nx:St→Hp→Prop
 rt:VK
 bk:St→Hp→Prop:=fun _ _=>False
 ct:St→Hp→Prop:=fun _ _=>False
abbrev TS:=Ends→St→Hp→Prop
def EP (X:Cx) (pins:List (Addr × Obj)) (σ:St) (Q:VK) (u:Value) (s':Shared):Prop:=∃ v H',Inv X pins σ H' s'∧RelV v u∧Q v H'
def TP (X:Cx) (pins:List (Addr × Obj)) (σ:St) (Q:Bool→Hp→Prop) (b:Bool) (s':Shared):Prop:=∃ H',Inv X pins σ H' s'∧Q b H'
def AP (X:Cx) (pins:List (Addr × Obj)) (σ:St) (Q:List V→Hp→Prop) (us:List Value) (s':Shared):Prop:=∃ vs H',Inv X pins σ H' s'∧Vals vs us∧Q vs H'
def SP (X:Cx) (pins:List (Addr × Obj)) (D:Ends) (f:Flow) (s':Shared):Prop :=
 match f with
 | .next=>∃ σ' H',Inv X pins σ' H' s'∧D.nx σ' H'
 | .brk=>∃ σ' H',Inv X pins σ' H' s'∧D.bk σ' H'
 | .cont=>∃ σ' H',Inv X pins σ' H' s'∧D.ct σ' H'
 | .ret u=>∃ v σ' H',Inv X pins σ' H' s'∧RelV v u∧D.rt v H'
def PE (X:Cx) (e:Expr) (t:TE):Prop :=
 ∀ (pins:List (Addr × Obj)) (s:Shared) (σ:St) (H:Hp) (Q:VK),Inv X pins σ H s→t σ H Q→wpAny (model X.prog X.w) X.A (eval e X.env) (EP X pins σ Q) X.xe s
def PT (X:Cx) (e:Expr) (t:TT):Prop :=
 ∀ (pins:List (Addr × Obj)) (s:Shared) (σ:St) (H:Hp) (Q:Bool→Hp→Prop),Inv X pins σ H s→t σ H Q→wpAny (model X.prog X.w) X.A (isTrue e X.env (eval e X.env)) (TP X pins σ Q) X.xe s
def PW (X:Cx) (e:Expr) (t:TT):Prop :=
 ∀ (whole:Sem Value) (pins:List (Addr × Obj)) (s:Shared) (σ:St) (H:Hp) (Q:Bool→Hp→Prop),Inv X pins σ H s→t σ H Q→wpAny (model X.prog X.w) X.A (isTrue e X.env whole) (TP X pins σ Q) X.xe s
theorem PW.pt {X:Cx} {e:Expr} {t:TT} (h:PW X e t):PT X e t:=h _
def PA (X:Cx) (es:List Expr) (t:TA):Prop :=
 ∀ (pos:Pos) (pins:List (Addr × Obj)) (s:Shared) (σ:St) (H:Hp) (Q:List V→Hp→Prop),Inv X pins σ H s→t σ H Q→wpAny (model X.prog X.w) X.A (spliced (backTo pos (starEach es X.env))) (AP X pins σ Q) X.xe s
def PS (X:Cx) (st:Stmt) (t:TS):Prop :=
 ∀ (pins:List (Addr × Obj)) (s:Shared) (σ:St) (H:Hp) (D:Ends),Inv X pins σ H s→t D σ H→wpAny (model X.prog X.w) X.A (exec st X.env) (SP X pins D) X.xe s
def PSs (X:Cx) (st:List Stmt) (t:TS):Prop :=
 ∀ (pins:List (Addr × Obj)) (s:Shared) (σ:St) (H:Hp) (D:Ends),Inv X pins σ H s→t D σ H→wpAny (model X.prog X.w) X.A (execs st X.env) (SP X pins D) X.xe s
theorem thn {α:Type} {t:Sem α} {Q Q':α→Shared→Prop} {M:Model} {A:Around} {E:Value→Shared→Prop} {s:Shared} (h:wpAny M A t Q E s) (hQ:∀ a s,Q a s→Q' a s):wpAny M A t Q' E s:=wpAny_mono h hQ fun _ _ x=>x
end L2
namespace L2
open PySem PySem.Spec PyProof.Rows
section
variable {X:Cx}
def tVar (i:Nat):TE:=fun σ H Q=>∃ v,σ[i]? = some (some v)∧Q v H
def tC (v:V):TE:=fun _ H Q=>Q v H
theorem pe_var {i:Nat} {x:Str} {pos:Pos} (hN:X.N[i]? = some x) (hv:Vis X.env.scope x) (hd:(x == ("__debug__":Str)) = false:=by decide) (hcd:(x == ("__classdict__":Str)) = false:=by decide):PE X (.Name x pos) (tVar i):=by
 intro pins s σ H Q I h
 obtain ⟨v,e,h⟩:=h
 obtain ⟨m,hn,hl⟩:=I.loc
 obtain ⟨u,r,l⟩:=hl i x v hN e hv
 have fin:EP X pins σ Q u s:=⟨v,H,I,r,h⟩
 rcases l with ⟨hk,hm⟩ | ⟨hk,c,hc,hcell⟩
 · exact wpAny_Name (wpAny_loadName_local I.ok.kind hk hn hm fin) hd
 · rcases hk with hk | hk
   · exact wpAny_Name (wpAny_loadName_cell I.ok.kind hk hc hcell fin) hd
   · exact wpAny_Name (wpAny_loadName_free I.ok.kind hk hc hcell fin hcd) hd
theorem pe_int {i j pos}:PE X (.Constant (.int i) j pos) (tC (.int i)):=fun _ _ _ H _ I h=>wpAny_Constant_int ⟨.int i,H,I.tok _,⟨_,rfl⟩,h⟩
theorem pe_bl {b j pos}:PE X (.Constant (.bool b) j pos) (tC (.bl b)):=fun _ _ _ H _ I h=>Constant_bool ⟨.bl b,H,I,rfl,h⟩
theorem pe_non {j pos}:PE X (.Constant .none j pos) (tC .non):=fun _ _ _ H _ I h=>Constant_none ⟨.non,H,I,rfl,h⟩
theorem pe_str {x j pos}:PE X (.Constant (.str x) j pos) (tC (.str x)):=fun _ _ _ H _ I h=>Calls.Constant_str ⟨.str x,H,I.tok _,⟨_,rfl⟩,h⟩
def Gl (X:Cx) (x:Str):Prop:=X.env.kindOf x = some .globalImplicit
theorem ld_glob {E:Value→Shared→Prop} {pins:List (Addr × Obj)} {s:Shared} {σ:St} {H:Hp} {x:Str} {u:Value} {pos:Pos} {Q:Value→Shared→Prop} (I:Inv X pins σ H s) (hg:Gl X x) (hm:X.mg x = some u) (h:Q u s)
 (hd:(x == ("__debug__":Str)) = false:=by decide):wpAny (model X.prog X.w) X.A (eval (.Name x pos) X.env) Q E s :=
 Calls.Name_function_global I.ok.kind hg (Calls.loadGlobal_global (by rw [I.ok.glob];exact I.mod.glob.keeps I.bk) hm h) hd
theorem ld_blt {E:Value→Shared→Prop} {pins:List (Addr × Obj)} {s:Shared} {σ:St} {H:Hp} {x:Str} {u:Value} {pos:Pos} {Q:Value→Shared→Prop} (I:Inv X pins σ H s) (hg:Gl X x) (hm:X.mg x = none) (hv:bootBuiltins x = some u) (h:Q u s)
 (hn:x≠"__name__":=by decide) (hd:(x == ("__debug__":Str)) = false:=by decide):wpAny (model X.prog X.w) X.A (eval (.Name x pos) X.env) Q E s:=by
 obtain ⟨mb,h1,h2⟩:=I.mod.blt
 exact Calls.Name_function_global I.ok.kind hg (Calls.loadGlobal_builtin (by rw [I.ok.glob];exact I.mod.glob.keeps I.bk) hm (by rw [I.ok.blt];exact h1.keeps I.bk) ((h2 x hn).trans hv) h) hd
theorem pe_glob {x:Str} {v:V} {u:Value} {pos:Pos} (hg:Gl X x) (hm:X.mg x = some u) (r:RelV v u) (hd:(x == ("__debug__":Str)) = false:=by decide):PE X (.Name x pos) (tC v) :=
 fun _ _ _ H _ I h=>ld_glob I hg hm ⟨v,H,I,r,h⟩ hd
theorem pe_bltn {x:Str} {v:V} {u:Value} {pos:Pos} (hg:Gl X x) (hm:X.mg x = none) (hv:bootBuiltins x = some u) (r:RelV v u) (hn:x≠"__name__":=by decide) (hd:(x == ("__debug__":Str)) = false:=by decide):PE X (.Name x pos) (tC v) :=
 fun _ _ _ H _ I h=>ld_blt I hg hm hv ⟨v,H,I,r,h⟩ hn hd
variable {a b:Expr} {ta tb:TE} {pos:Pos}
variable {tA tB':TT} {rest:List Expr}
def tAnd (t u:TT):TT:=fun σ H Q=>t σ H fun c H1=>if c = true then u σ H1 Q else Q false H1
def tOr (t u:TT):TT:=fun σ H Q=>t σ H fun c H1=>if c = true then Q true H1 else u σ H1 Q
def tNot (t:TT):TT:=fun σ H Q=>t σ H fun c H1=>Q (!c) H1
theorem pw_and1 (ha:PT X a tA):PW X (.BoolOp .And [a] pos) tA:=by
 intro wh pins s σ H Q I h
 refine isTrue_and (thn (ha pins s σ H Q I h) fun c s1 e=>?_)
 cases c with
 | true=>exact isTrue_and_nil e
 | false=>exact e
theorem pw_or1 (ha:PT X a tA):PW X (.BoolOp .Or [a] pos) tA:=by
 intro wh pins s σ H Q I h
 refine isTrue_or (thn (ha pins s σ H Q I h) fun c s1 e=>?_)
 cases c with
 | false=>exact isTrue_or_nil e
 | true=>exact e
theorem pw_and (ha:PT X a tA) (hb:PW X (.BoolOp .And (b::rest) pos) tB'):PW X (.BoolOp .And (a::b::rest) pos) (tAnd tA tB'):=by
 intro wh pins s σ H Q I h
 refine isTrue_and (thn (ha pins s σ H _ I h) fun c s1 ⟨H1,I1,q1⟩=>?_)
 cases c with
 | true=>exact hb wh pins s1 σ H1 Q I1 q1
 | false=>exact ⟨H1,I1,q1⟩
theorem pw_or (ha:PT X a tA) (hb:PW X (.BoolOp .Or (b::rest) pos) tB'):PW X (.BoolOp .Or (a::b::rest) pos) (tOr tA tB'):=by
 intro wh pins s σ H Q I h
 refine isTrue_or (thn (ha pins s σ H _ I h) fun c s1 ⟨H1,I1,q1⟩=>?_)
 cases c with
 | true=>exact ⟨H1,I1,q1⟩
 | false=>exact hb wh pins s1 σ H1 Q I1 q1
theorem pt_not (ha:PT X a tA):PT X (.UnaryOp .Not a pos) (tNot tA):=by
 intro pins s σ H Q I h
 exact isTrue_not (ha pins s σ H (fun c H1=>Q (!c) H1) I h)
def tAndV (ta tb:TE):TE:=fun σ H Q=>ta σ H fun x H1=>∃ c,x = .bl c∧if c = true then tb σ H1 Q else Q (.bl false) H1
def tOrV (ta tb:TE):TE:=fun σ H Q=>ta σ H fun x H1=>∃ c,x = .bl c∧if c = true then Q (.bl true) H1 else tb σ H1 Q
def tNotV (ta:TE):TE:=fun σ H Q=>ta σ H fun x H1=>∃ c,x = .bl c∧Q (.bl (!c)) H1
theorem pe_one {op} {t:TE} (h:PE X a t):PE X (.BoolOp op [a] pos) t:=fun pins s σ H Q I hw=>BoolOp_one (h pins s σ H Q I hw)
theorem pe_and (ha:PE X a ta) (hb:PE X (.BoolOp .And (b::rest) pos) tb):PE X (.BoolOp .And (a::b::rest) pos) (tAndV ta tb):=by
 intro pins s σ H Q I h
 refine BoolOp_and (thn (ha pins s σ H _ I h) fun v s1 ⟨x,H1,I1,r1,q1⟩=>?_)
 obtain ⟨c,rfl,q1⟩:=q1
 cases r1
 refine wpAny_truthy_bool ?_
 cases c with
 | true=>exact hb pins s1 σ H1 Q I1 q1
 | false=>exact ⟨.bl false,H1,I1,rfl,q1⟩
theorem pe_or (ha:PE X a ta) (hb:PE X (.BoolOp .Or (b::rest) pos) tb):PE X (.BoolOp .Or (a::b::rest) pos) (tOrV ta tb):=by
 intro pins s σ H Q I h
 refine BoolOp_or (thn (ha pins s σ H _ I h) fun v s1 ⟨x,H1,I1,r1,q1⟩=>?_)
 obtain ⟨c,rfl,q1⟩:=q1
 cases r1
 refine wpAny_truthy_bool ?_
 cases c with
 | false=>exact hb pins s1 σ H1 Q I1 q1
 | true=>exact ⟨.bl true,H1,I1,rfl,q1⟩
theorem pe_not (ha:PE X a ta):PE X (.UnaryOp .Not a pos) (tNotV ta):=by
 intro pins s σ H Q I h
 refine UnaryOp_ (thn (ha pins s σ H _ I h) fun v s1 ⟨x,H1,I1,r1,q1⟩=>?_)
 obtain ⟨c,rfl,q1⟩:=q1
 cases r1
 exact not_of (wpAny_truthy_bool ⟨.bl (!c),H1,I1,rfl,q1⟩)
def tIf (t:TT) (ta tb:TE):TE:=fun σ H Q=>t σ H fun c H1=>if c = true then ta σ H1 Q else tb σ H1 Q
theorem pe_ifExp {c:Expr} (hc:PT X c tA) (ha:PE X a ta) (hb:PE X b tb):PE X (.IfExp c a b pos) (tIf tA ta tb):=by
 intro pins s σ H Q I h
 refine wpAny_IfExp (thn (hc pins s σ H _ I h) fun d s1 ⟨H1,I1,q1⟩=>?_)
 cases d with
 | true=>exact ha pins s1 σ H1 Q I1 q1
 | false=>exact hb pins s1 σ H1 Q I1 q1
end
end L2
namespace L2
open PySem PySem.Spec PyProof.Rows
def SqL (K:PySem.W.Frag) (H:Hp) (a:Addr) (xs:List V):Prop :=
 Rd H a (.lst xs) ∨
  ∃ (o:Obj) (its:Array Value) (n:Nat),K.lookup a = some o∧o.cls = .type "list"∧o.dict = none∧o.data = .seq its n∧its.size≤sizeLine∧Vals xs its.toList
def SqT (K:PySem.W.Frag) (H:Hp) (a:Addr) (xs:List V):Prop :=
 Rd H a (.tup xs) ∨
  ∃ (o:Obj) (its:Array Value) (n:Nat),K.lookup a = some o∧o.cls = .type "tuple"∧o.data = .seq its n∧its.size≤sizeLine∧Vals xs its.toList
def absV:Value→Option V
 | .none=>some .non
 | .bool b=>some (.bl b)
 | .int i _=>some (.int i)
 | .str x _=>some (.str x)
 | .bytes b _=>some (.byt b)
 | .float b _=>some (.flt b)
 | .ref a=>some (.ref a)
 | .type n=>some (.ty n)
 | _=>none
theorem RelV.abs {x:V} {u:Value} (r:RelV x u):absV u = some x:=by
 cases x with
 | non=>cases r;rfl
 | bl _=>cases r;rfl
 | int _=>obtain ⟨t,rfl⟩:=r;rfl
 | str _=>obtain ⟨t,rfl⟩:=r;rfl
 | byt _=>obtain ⟨t,rfl⟩:=r;rfl
 | flt _=>obtain ⟨t,rfl⟩:=r;rfl
 | ref _=>cases r;rfl
 | ty _=>cases r;rfl
theorem RelV.inj {x y:V} {u:Value} (r:RelV x u) (q:RelV y u):x = y:=Option.some.inj (r.abs.symm.trans q.abs)
theorem Vals.inj:∀ {xs ys:List V} {us:List Value},Vals xs us→Vals ys us→xs = ys
 | _,_,_,.nil,.nil=>rfl
 | _,_,_,.cons r t,.cons r' t'=>by rw [r.inj r',Vals.inj t t']
section
variable {X:Cx} {pins:List (Addr × Obj)} {σ:St} {H:Hp} {s:Shared} {a:Addr} {xs ys:List V}
theorem SqT.of {K:PySem.W.Frag} (h:H a = some (.tup xs)):SqT K H a xs:=.inl (.inl h)
theorem Inv.list (I:Inv X pins σ H s) (h:SqL X.K H a xs):∃ its:List Value,Vals xs its∧PlainL s.heap a its.toArray∧xs.length≤sizeLine:=by
 rcases h with h | ⟨o,its,n,hk,hc,hd,hs,hz,r⟩
 · obtain ⟨z,its,n,r,e⟩:=h.ok I.hok
   exact ⟨its,r,⟨_,n,e,rfl,rfl,rfl⟩,z⟩
 · refine ⟨its.toList,r,⟨o,n,I.kIn a o hk,hc,hd,by simpa using hs⟩,?_⟩
   have e:=r.length
   simp only [Array.length_toList] at e
   omega
theorem Inv.tuple (I:Inv X pins σ H s) (h:SqT X.K H a xs):∃ its:List Value,Vals xs its∧IsTup s.heap a its.toArray∧xs.length≤sizeLine:=by
 rcases h with h | ⟨o,its,n,hk,hc,hs,hz,r⟩
 · obtain ⟨z,its,r,p⟩:=h.ok I.hok
   exact ⟨its,r,p,z⟩
 · refine ⟨its.toList,r,⟨o,I.kIn a o hk,hc,n,by simpa using hs⟩,?_⟩
   have e:=r.length
   simp only [Array.length_toList] at e
   omega
theorem Inv.list_inj (I:Inv X pins σ H s) (h:SqL X.K H a xs) (h':SqL X.K H a ys):xs = ys:=by
 obtain ⟨its,r,⟨o,n,e,_,_,d⟩,_⟩:=I.list h
 obtain ⟨its',r',⟨o',n',e',_,_,d'⟩,_⟩:=I.list h'
 rw [e] at e';cases e'
 rw [d] at d'
 injection d' with d1 _
 have:its = its':=by simpa using congrArg Array.toList d1
 subst this
 exact r.inj r'
theorem Inv.tuple_inj (I:Inv X pins σ H s) (h:SqT X.K H a xs) (h':SqT X.K H a ys):xs = ys:=by
 obtain ⟨its,r,⟨o,e,_,n,d⟩,_⟩:=I.tuple h
 obtain ⟨its',r',⟨o',e',_,n',d'⟩,_⟩:=I.tuple h'
 rw [e] at e';cases e'
 rw [d] at d'
 injection d' with d1 _
 have:its = its':=by simpa using congrArg Array.toList d1
 subst this
 exact r.inj r'
end
abbrev Cx.wish (X:Cx) (E:Value→Shared→Prop):Cx:={ X with xe:=E }
abbrev Cx.nox (X:Cx):Cx:=X.wish fun _ _=>False
theorem Cx.Ok.wish {X:Cx} (ok:X.Ok) (E:Value→Shared→Prop):(X.wish E).Ok :=
 ⟨ok.mod,ok.kind,ok.glob,ok.blt,ok.above,ok.inj,ok.has,ok.cab,ok.hd,ok.frames,ok.stk,ok.exf,ok.bs,ok.bsz,ok.noex,ok.exfs,ok.funs,ok.frf⟩
theorem Cx.Ok.unwish {X:Cx} {E:Value→Shared→Prop} (ok:(X.wish E).Ok):X.Ok :=
 ⟨ok.mod,ok.kind,ok.glob,ok.blt,ok.above,ok.inj,ok.has,ok.cab,ok.hd,ok.frames,ok.stk,ok.exf,ok.bs,ok.bsz,ok.noex,ok.exfs,ok.funs,ok.frf⟩
section
variable {X:Cx} {pins:List (Addr × Obj)} {σ:St} {H:Hp} {s:Shared} {E:Value→Shared→Prop}
theorem Inv.wish (I:Inv X pins σ H s) (E:Value→Shared→Prop):Inv (X.wish E) pins σ H s:=⟨I.ok.wish E,I.os,I.bare,I.base,I.loc,I.cell,I.free,I.freeC,I.pin,I.hok,I.len⟩
theorem Inv.unwish (I:Inv (X.wish E) pins σ H s):Inv X pins σ H s:=⟨I.ok.unwish,I.os,I.bare,I.base,I.loc,I.cell,I.free,I.freeC,I.pin,I.hok,I.len⟩
theorem SP.unwish {D:Ends} {f:Flow} {s':Shared} (h:SP (X.wish E) pins D f s'):SP X pins D f s':=by
 cases f with
 | next=>obtain ⟨σ',H',I,q⟩:=h;exact ⟨σ',H',I.unwish,q⟩
 | brk=>obtain ⟨σ',H',I,q⟩:=h;exact ⟨σ',H',I.unwish,q⟩
 | cont=>obtain ⟨σ',H',I,q⟩:=h;exact ⟨σ',H',I.unwish,q⟩
 | ret u=>obtain ⟨v,σ',H',I,r,q⟩:=h;exact ⟨v,σ',H',I.unwish,r,q⟩
theorem PSs.nox {st:List Stmt} {t:TS} (h:PSs X.nox st t):PSs X st t:=fun pins s σ H D I hw =>
 wpAny_mono (h pins s σ H D (I.wish _) hw) (fun _ _ q=>q.unwish) fun _ _ z=>False.elim z
end
section
variable {X:Cx} {st:Stmt} {rest:List Stmt} {t u:TS} {e:Expr} {te:TE} {pos:Pos}
def tNext:TS:=fun D σ H=>D.nx σ H
def tSeq (t u:TS):TS:=fun D σ H=>t { D with nx:=u D } σ H
theorem pss_nil:PSs X [] tNext:=fun _ _ σ H _ I h=>wpAny_execs_nil ⟨σ,H,I,h⟩
theorem pss_cons (h1:PS X st t) (h2:PSs X rest u):PSs X (st::rest) (tSeq t u):=by
 intro pins s σ H D I h
 refine wpAny_execs_cons (thn (h1 pins s σ H { D with nx:=u D } I h) fun f s1 q=>?_)
 cases f with
 | next =>
   obtain ⟨σ',H',I',q⟩:=q
   exact h2 pins s1 σ' H' D I' q
 | ret v=>exact q
 | brk=>exact q
 | cont=>exact q
def tBreak:TS:=fun D σ H=>D.bk σ H
def tCont:TS:=fun D σ H=>D.ct σ H
theorem ps_pass:PS X (.Pass pos) tNext:=fun _ _ σ H _ I h=>wpAny_Pass ⟨σ,H,I,h⟩
theorem ps_break:PS X (.Break pos) tBreak:=fun _ _ σ H _ I h=>wpAny_Break ⟨σ,H,I,h⟩
theorem ps_continue:PS X (.Continue pos) tCont:=fun _ _ σ H _ I h=>wpAny_Continue ⟨σ,H,I,h⟩
theorem Inv.quiet {pins:List (Addr × Obj)} {σ:St} {H:Hp} {s:Shared} (I:Inv X pins σ H s):interactive X.env = false:=by simp [interactive,I.ok.kind]
def tDrop (te:TE):TS:=fun D σ H=>te σ H fun _ H1=>D.nx σ H1
theorem ps_expr (he:PE X e te) (hs:swapsWith e none pos.line X.env = pure false:=by rfl):PS X (.Expr e pos) (tDrop te):=by
 intro pins s σ H D I h
 exact wpAny_Expr_any (thn (he pins s σ H _ I h) fun v s1 ⟨x,H1,I1,r1,q1⟩=>⟨σ,H1,I1,q1⟩) I.quiet hs
def tRet (te:TE):TS:=fun D σ H=>te σ H D.rt
theorem ps_ret (he:PE X e te):PS X (.Return (some e) pos) (tRet te):=by
 intro pins s σ H D I h
 exact wpAny_Return_some (thn (he pins s σ H _ I h) fun v s1 ⟨x,H1,I1,r1,q1⟩=>⟨x,σ,H1,I1,r1,q1⟩)
def tRetN:TS:=fun D _ H=>D.rt .non H
theorem ps_retN:PS X (.Return none pos) tRetN:=fun _ _ σ H _ I h=>wpAny_Return_none ⟨.non,σ,H,I,rfl,h⟩
def tIfS (c:TT) (t u:TS):TS:=fun D σ H=>c σ H fun b H1=>if b = true then t D σ H1 else u D σ H1
theorem ps_if {c:Expr} {a b:List Stmt} {tc:TT} (hc:PT X c tc) (ha:PSs X a t) (hb:PSs X b u):PS X (.If c a b pos) (tIfS tc t u):=by
 intro pins s σ H D I h
 refine wpAny_If (thn (hc pins s σ H _ I h) fun d s1 ⟨H1,I1,q1⟩=>?_)
 cases d with
 | true=>exact ha pins s1 σ H1 D I1 q1
 | false=>exact hb pins s1 σ H1 D I1 q1
def tNever:TS:=fun _ _ _=>False
theorem ps_never:PS X st tNever:=fun _ _ _ _ _ _ h=>h.elim
end
abbrev TG:=V→St→Hp→(St→Hp→Prop)→Prop
abbrev TGs:=List V→St→Hp→(St→Hp→Prop)→Prop
def PG (X:Cx) (target:Expr) (t:TG):Prop :=
 ∀ (pins:List (Addr × Obj)) (s:Shared) (σ:St) (H:Hp) (v:V) (u:Value) (Q:St→Hp→Prop),Inv X pins σ H s→RelV v u→t v σ H Q →
  wpAny (model X.prog X.w) X.A (assign target X.env u) (fun _ s'=>∃ σ' H',Inv X pins σ' H' s'∧Q σ' H') X.xe s
def PGs (X:Cx) (ts:List Expr) (t:TGs):Prop :=
 ∀ (pins:List (Addr × Obj)) (s:Shared) (σ:St) (H:Hp) (vs:List V) (us:List Value) (Q:St→Hp→Prop),Inv X pins σ H s→Vals vs us→t vs σ H Q →
  wpAny (model X.prog X.w) X.A (assignInOrder ((assignEach ts X.env).map (·.2)) us) (fun _ s'=>∃ σ' H',Inv X pins σ' H' s'∧Q σ' H') X.xe s
abbrev TSet:=V→V→V→Hp→(Hp→Prop)→Prop
def PSet (X:Cx) (t:TSet):Prop :=
 ∀ (pins:List (Addr × Obj)) (s:Shared) (σ:St) (H:Hp) (o i v:V) (ov iv u:Value) (Q:Hp→Prop),Inv X pins σ H s→RelV o ov→RelV i iv→RelV v u→t o i v H Q →
  wpAny (model X.prog X.w) X.A (setItem ov iv u) (fun _ s'=>∃ H',Inv X pins σ H' s'∧Q H') X.xe s
abbrev TIp:=V→V→Hp→VK→Prop
def PIp (X:Cx) (op:Operator) (t:TIp):Prop :=
 ∀ (pins:List (Addr × Obj)) (s:Shared) (σ:St) (H:Hp) (x y:V) (v u:Value) (Q:VK),Inv X pins σ H s→RelV x v→RelV y u→t x y H Q →
  wpAny (model X.prog X.w) X.A (inplaceOp op v u) (EP X pins σ Q) X.xe s
section
variable {X:Cx} {pos:Pos}
def gName (i:Nat):TG:=fun v σ H Q=>Q (σ.set i (some v)) H
theorem pg_name {i:Nat} {x:Str} (hN:X.N.Nodup) (hi:X.N[i]? = some x) (hx:Loc X.env.scope x) (hf:X.fn x = true∨X.env.scope.names.lookup x = some .local:=by first | exact .inl rfl | exact .inr rfl | assumption):PG X (.Name x pos) (gName i):=by
 intro pins s σ H v u Q I r h
 exact wpAny_assign_Name (store_ok I hN hi hx r (fun s' I'=>⟨_,H,I',h⟩) hf)
def gNil:TGs:=fun vs σ H Q=>vs = []∧Q σ H
def gCons (t:TG) (u:TGs):TGs:=fun vs σ H Q=>∃ v r,vs = v::r∧t v σ H fun σ' H'=>u r σ' H' Q
theorem pgs_nil:PGs X [] gNil:=by
 intro pins s σ H vs us Q I r h
 obtain ⟨e,h⟩:=h
 subst e
 cases r
 exact assignInOrder_nil ⟨σ,H,I,h⟩
theorem pgs_cons {e:Expr} {es:List Expr} {t:TG} {u:TGs} (h1:PG X e t) (h2:PGs X es u)
 (hs:(assignEach (e::es) X.env).map (·.2) = assign e X.env::(assignEach es X.env).map (·.2):=by rfl):PGs X (e::es) (gCons t u):=by
 intro pins s σ H vs us Q I r h
 obtain ⟨v,vr,e1,h⟩:=h
 subst e1
 cases r with
 | cons r rr =>
   rw [hs]
   refine assignInOrder_cons (thn (h1 pins s σ H _ _ _ I r h) fun _ s1 ⟨σ1,H1,I1,q1⟩=>?_)
   exact h2 pins s1 σ1 H1 _ _ Q I1 rr q1
def gTup (K:PySem.W.Frag) (n:Nat) (t:TGs):TG:=fun v σ H Q=>∃ a xs,v = .ref a∧SqT K H a xs∧xs.length = n∧t xs σ H Q
theorem pg_tup {es:List Expr} {k:Nat} {t:TGs} {n:Nat} (hc:X.calm = true) (h:PGs X es t)
 (hn:(assignEach es X.env).length = n:=by rfl) (hst:(assignEach es X.env).findIdx? (·.1) = none:=by rfl):PG X (.Tuple es k pos) (gTup X.K n t):=by
 intro pins s σ H v u Q I r hw
 obtain ⟨a,xs,e1,hq,hl,hw⟩:=hw
 subst e1
 cases r
 obtain ⟨its,rv,ht,hz⟩:=I.tuple hq
 refine assign_Tuple_tuple (I.ok.hd hc) ht (by simp [hn,← hl,rv.length]) hst fun h' hx=>?_
 have I1:Inv X pins σ H { s with heap:=h' }:=I.kept (t':=s.toks) fun b o e=>hx b o (Nat.ne_of_lt (Heap.lt_size e)) e
 exact h pins _ σ H xs _ Q I1 (by simpa using rv) hw
def gSub (to ti:TE) (t:TSet):TG:=fun v σ H Q=>to σ H fun o H1=>ti σ H1 fun i H2=>t o i v H2 fun H3=>Q σ H3
theorem pg_sub {o i:Expr} {to ti:TE} {t:TSet} (ho:PE X o to) (hi:PE X i ti) (hs:PSet X t)
 (ha:∀ v,assign (.Subscript o i pos) X.env v = (do
   let ov ← holding [v] (eval o X.env)
   let iv ← holding [v,ov] (eval i X.env)
   standAt pos
   holding [v,ov,iv] (setItem ov iv v)
   release [v,ov,iv] []):=by intro _;rfl):PG X (.Subscript o i pos) (gSub to ti t):=by
 intro pins s σ H v u Q I r h
 rw [ha]
 refine wpAny_bind (wpAny_holding (thn (ho pins s σ H _ I h) fun ov s1 ⟨x,H1,I1,r1,q1⟩=>?_))
 refine wpAny_bind (wpAny_holding (thn (hi pins s1 σ H1 _ I1 q1) fun iv s2 ⟨y,H2,I2,r2,q2⟩=>?_))
 refine wpAny_bind (wpAny_standAt (wpAny_bind (wpAny_holding (thn (hs pins s2 σ H2 x y v ov iv u _ I2 r1 r2 r q2) fun _ s3 ⟨H3,I3,q3⟩=>?_))))
 exact wpAny_release ⟨σ,H3,I3,q3⟩
def tAsg (te:TE) (g:TG):TS:=fun D σ H=>te σ H fun x H1=>g x σ H1 D.nx
theorem ps_asg {tg e:Expr} {te:TE} {g:TG} (he:PE X e te) (hg:PG X tg g) (hs:swapsWithSole [tg] e pos.line X.env = pure false:=by rfl) (hw:swappedStores [tg] e X.env = pure none:=by rfl)
 (h1:(assignEach [tg] X.env).map (·.2) = [assign tg X.env]:=by rfl):PS X (.Assign [tg] e pos) (tAsg te g):=by
 intro pins s σ H D I h
 refine wpAny_Assign_stores (thn (he pins s σ H _ I h) fun v s1 ⟨x,H1,I1,r1,q1⟩=>?_) hs hw
 rw [h1]
 exact thn (hg pins s1 σ H1 x v _ I1 r1 q1) fun _ s2 q=>q
theorem ps_set {i:Nat} {x:Str} {e:Expr} {te:TE} {pos':Pos} (hN:X.N.Nodup) (hi:X.N[i]? = some x) (hx:Loc X.env.scope x) (he:PE X e te) (hs:swapsWith e (some (.Name x pos')) pos.line X.env = pure false:=by rfl) (hf:X.fn x = true∨X.env.scope.names.lookup x = some .local:=by first | exact .inl rfl | exact .inr rfl | assumption) :
 PS X (.Assign [.Name x pos'] e pos) (tAsg te (gName i)):=by
 intro pins s σ H D I h
 refine wpAny_Assign_Name (thn (he pins s σ H _ I h) fun v s1 ⟨y,H1,I1,r1,q1⟩=>?_) hs
 exact store_ok I1 hN hi hx r1 (fun s2 I2=>⟨_,H1,I2,q1⟩) hf
def tAug (i:Nat) (te:TE) (ti:TIp):TS:=fun D σ H=>∃ x,σ[i]? = some (some x)∧te σ H fun y H1=>ti x y H1 fun z H2=>D.nx (σ.set i (some z)) H2
theorem ps_aug {i:Nat} {x:Str} {e:Expr} {te:TE} {op:Operator} {ti:TIp} {pos':Pos} (hN:X.N.Nodup) (hi:X.N[i]? = some x) (hx:Loc X.env.scope x) (he:PE X e te) (ho:PIp X op ti) (hf:X.fn x = true∨X.env.scope.names.lookup x = some .local:=by first | exact .inl rfl | exact .inr rfl | assumption) :
 PS X (.AugAssign (.Name x pos') op e pos) (tAug i te ti):=by
 intro pins s σ H D I h
 obtain ⟨v,e1,h⟩:=h
 obtain ⟨m,hn,hl⟩:=I.loc
 have vis:Vis X.env.scope x:=by rcases hx with k | k;exact .inl k;exact .inr (.inl k)
 obtain ⟨u,r,l⟩:=hl i x v hi e1 vis
 refine wpAny_AugAssign_Name ?_
 have go:wpAny (model X.prog X.w) X.A (eval e X.env) (fun w s₂=>wpAny (model X.prog X.w) X.A (inplaceOp op u w) (fun r s₃=>wpAny (model X.prog X.w) X.A (storeName X.env x r) (fun _=>SP X pins D .next) X.xe s₃) X.xe s₂) X.xe s:=by
  refine thn (he pins s σ H _ I h) fun w s1 ⟨y,H1,I1,r1,q1⟩=>?_
  refine thn (ho pins s1 σ H1 v y u w _ I1 r r1 q1) fun z s2 ⟨zv,H2,I2,r2,q2⟩=>?_
  exact store_ok I2 hN hi hx r2 (fun s3 I3=>⟨_,H2,I3,q2⟩) hf
 rcases l with ⟨hk,hm⟩ | ⟨hk,c,hc,hcell⟩
 · exact wpAny_loadName_local I.ok.kind hk hn hm go
 · rcases hk with hk | hk
   · exact wpAny_loadName_cell I.ok.kind hk hc hcell go
   · rcases hx with k | k
     · have:X.env.scope.names.lookup x = some .free:=hk
       rw [k] at this;cases this
     · have:X.env.scope.names.lookup x = some .free:=hk
       rw [k] at this;cases this
def ipI (f:Int→Int→Int):TIp:=fun x y H Q=>∃ i j,x = .int i∧y = .int j∧Q (.int (f i j)) H
theorem ip_add:PIp X .Add (ipI fun i j=>i+j):=by
 intro pins s σ H x y v u Q I r1 r2 h
 obtain ⟨i,j,e1,e2,q⟩:=h
 subst e1;subst e2
 obtain ⟨t,rfl⟩:=r1
 obtain ⟨t',rfl⟩:=r2
 exact iadd_int ⟨.int _,H,I.tok _,⟨_,rfl⟩,q⟩
theorem ip_sub:PIp X .Sub (ipI fun i j=>i - j):=by
 intro pins s σ H x y v u Q I r1 r2 h
 obtain ⟨i,j,e1,e2,q⟩:=h
 subst e1;subst e2
 obtain ⟨t,rfl⟩:=r1
 obtain ⟨t',rfl⟩:=r2
 exact isub_int ⟨.int _,H,I.tok _,⟨_,rfl⟩,q⟩
end
section
variable {X:Cx} {pos:Pos}
def tWhile (c:TT) (tb:TS):TS:=fun D σ H=>∃ W:Nat→St→Hp→Prop,(∃ m,W m σ H)∧∀ m σ H,W m σ H →
 c σ H fun b H1=>if b = true then ∃ N:St→Hp→Prop,(∀ σ' H',N σ' H'→∃ m',m' < m∧W m' σ' H')∧tb { D with nx:=N,ct:=N,bk:=D.nx } σ H1 else D.nx σ H1
theorem ps_while {c:Expr} {body:List Stmt} {tc:TT} {tb:TS} (hp:PassesOwn (model X.prog X.w) X.A X.env X.xe) (hc:PT X c tc) (hb:PSs X body tb):PS X (.While c body [] pos) (tWhile tc tb):=by
 intro pins s σ H D I h
 obtain ⟨W,⟨m0,w0⟩,turn⟩:=h
 refine wpAny_While (codeAny_whileLoop (fun n s'=>∃ σ' H',Inv X pins σ' H' s'∧W n σ' H') ?_ m0 ⟨σ,H,I,w0⟩)
 rintro n s1 ⟨σ1,H1,I1,w1⟩
 refine wpAny_passesOwn hp (thn (hc pins s1 σ1 H1 _ I1 (turn n σ1 H1 w1)) fun b s2 ⟨H2,I2,q2⟩=>?_)
 cases b with
 | true =>
   obtain ⟨N,hN,q2⟩:=q2
   rw [if_pos rfl]
   refine wpAny_passesOwn hp (thn (hb pins s2 σ1 H2 _ I2 q2) fun f s3 q3=>?_)
   cases f with
   | next =>
     obtain ⟨σ3,H3,I3,n3⟩:=q3
     obtain ⟨m',hm,w3⟩:=hN σ3 H3 n3
     exact ⟨m',hm,σ3,H3,I3,w3⟩
   | cont =>
     obtain ⟨σ3,H3,I3,n3⟩:=q3
     obtain ⟨m',hm,w3⟩:=hN σ3 H3 n3
     exact ⟨m',hm,σ3,H3,I3,w3⟩
   | brk=>exact q3
   | ret v=>exact q3
 | false =>
   rw [if_neg Bool.false_ne_true]
   exact wpAny_execs_nil ⟨σ1,H2,I2,q2⟩
end
structure It where
 go:Nat→Hp→Prop
 yld:Nat→Hp→V→Hp→Prop
 stop:Nat→Hp→Prop
def FpOk (X:Cx) (pins:List (Addr × Obj)) (H:Hp) (b:Addr):Prop :=
 H b = none∧b≠X.env.locals∧b∉X.fs∧(b∈X.ex∨X.s₀.heap.objs.size≤b)∧(∀ x c,X.env.cells.lookup x = some c→c≠b)∧∀ p∈X.pn++pins,p.1≠b
theorem Inv.fpOk {X:Cx} {pins:List (Addr × Obj)} {σ:St} {H H':Hp} {s:Shared} {b:Addr} (I:Inv X pins σ H s) (hb:s.heap.objs.size≤b) (hn:H' b = none):FpOk X pins H' b:=by
 refine ⟨hn,Nat.ne_of_gt (Nat.lt_of_lt_of_le I.lt hb),I.nofs hb,.inr (Nat.le_trans I.sz hb),fun x c e z=>?_,fun p hp z=>?_⟩
 · obtain ⟨v,q⟩:=I.cell x c e
   exact absurd (Nat.lt_of_lt_of_le q.lt (by rw [z];exact hb)) (Nat.lt_irrefl _)
 · exact absurd (Nat.lt_of_lt_of_le (Heap.lt_size (I.pin p hp).1) (by rw [z];exact hb)) (Nat.lt_irrefl _)
structure Turn (P:Program) (w:World) (K:PySem.W.Frag) (tg:Expr) (J:It) (fp:List Addr) (it:Addr) (tn:Nat→Heap→Prop):Prop where
 mem:it∈fp
 obj:∀ i h,tn i h→∀ b∈fp,∃ o,h.get? b = some o∧∀ v,o.data≠.cell v
 keep:∀ i h h',tn i h→(∀ b∈fp,∀ o,h.get? b = some o→h'.get? b = some o)→tn i h'
 item:∀ (X:Cx),X.prog = P→X.w = w→X.K = K→X.calm = true→∀ (i:Nat) (pins:List (Addr × Obj)) (s:Shared) (σ:St) (H:Hp) (E:Value→Shared→Prop),Inv X pins σ H s→(∀ b∈fp,FpOk X pins H b)→tn i s.heap→J.go i H →
  wpAny (model P w) X.A (pyNext (.ref it)) (fun r s1=>∃ u,r = some u ∧
   wpAny (model P w) X.A (letOwnedTupleGo tg (.ref it) u) (fun _ s2=>∃ x H',Inv X pins σ H' s2∧RelV x u∧J.yld i H x H'∧tn (i+1) s2.heap∧∀ b∈fp,H' b = none) E s1) E s
 done:∀ (X:Cx),X.prog = P→X.w = w→X.K = K→X.calm = true→∀ (i:Nat) (pins:List (Addr × Obj)) (s:Shared) (σ:St) (H:Hp) (E:Value→Shared→Prop),Inv X pins σ H s→(∀ b∈fp,FpOk X pins H b)→tn i s.heap→J.stop i H →
  wpAny (model P w) X.A (pyNext (.ref it)) (fun r s1=>r = none∧Inv X pins σ H s1) E s
 self:∀ (A:Around) (i:Nat) (s:Shared) (Q:Value→Shared→Prop) (E:Value→Shared→Prop),tn i s.heap→Q (.ref it) s→wpAny (model P w) A (pyIter (.ref it)) Q E s
abbrev TI:=St→Hp→(It→Hp→Prop)→Prop
def PIE (X:Cx) (pins:List (Addr × Obj)) (σ:St) (tg:Expr) (R:It→Hp→Prop) (itv:Value) (s2:Shared):Prop :=
 ∃ (it:Addr) (fp:List Addr) (tn:Nat→Heap→Prop) (J:It) (H':Hp),itv = .ref it∧Inv X pins σ H' s2∧Turn X.prog X.w X.K tg J fp it tn∧tn 0 s2.heap∧(∀ b∈fp,FpOk X pins H' b)∧R J H'
def PI (X:Cx) (tg iter:Expr) (wi:TI):Prop :=
 ∀ (pins:List (Addr × Obj)) (s:Shared) (σ:St) (H:Hp) (R:It→Hp→Prop),Inv X pins σ H s→wi σ H R →
  wpAny (model X.prog X.w) X.A (eval iter X.env) (fun v s1=>wpAny (model X.prog X.w) X.A (pyIter v) (PIE X pins σ tg R) X.xe s1) X.xe s
theorem go_of {M:Model} {A:Around} {E:Value→Shared→Prop} {s:Shared} {tg:Expr} {it:Addr} {u:Value} {o:Obj} {n:String} {vs:Array Value} {Q:Unit→Shared→Prop} (ho:s.heap.get? it = some o) (hc:o.cls = .type n) (hd:o.data = .fields vs)
 (hn:["enumerate","zip","dict_itemiterator","dict_reverseitemiterator","odict_iterator","itertools.zip_longest","itertools.pairwise"].contains n = false) (hQ:Q () s):wpAny M A (letOwnedTupleGo tg (.ref it) u) Q E s:=by
 unfold letOwnedTupleGo
 cases tg<;>first
  | exact wpAny_pure hQ
  | (cases u<;>first
      | exact wpAny_pure hQ
      | (refine wpAny_bind (wpAny_load ho ?_)
         rw [hc,hd]
         show wpAny M A (if (["enumerate","zip","dict_itemiterator","dict_reverseitemiterator","odict_iterator","itertools.zip_longest","itertools.pairwise"].contains n && vs[0]? == some (rawInt _)) = true then _ else _) Q E s
         rw [if_neg (by intro h;rw [hn,Bool.false_and] at h;cases h)]
         exact wpAny_pure hQ))
def Itl (K:PySem.W.Frag) (a:Addr):It :=
 ⟨fun i H=>∃ xs x,SqL K H a xs∧xs[i]? = some x,fun i H x H'=>H' = H∧∀ xs,SqL K H a xs→xs[i]? = some x,fun i H=>∃ xs,SqL K H a xs∧xs.length≤i⟩
def Itt (K:PySem.W.Frag) (a:Addr):It :=
 ⟨fun i H=>∃ xs x,SqT K H a xs∧xs[i]? = some x,fun i H x H'=>H' = H∧∀ xs,SqT K H a xs→xs[i]? = some x,fun i H=>∃ xs,SqT K H a xs∧xs.length≤i⟩
def Itr (lo:Int) (n:Nat):It:=⟨fun i _=>i < n,fun i H x H'=>H' = H∧x = .int (lo+i),fun i _=>n≤i⟩
theorem turn_list {P:Program} {w:World} {K:PySem.W.Frag} {tg:Expr} (a it:Addr):Turn P w K tg (Itl K a) [it] it (fun i h=>h.IsListIter it a i) where
 mem:=by simp
 obj:=fun i h st b hb=>by
  have e:b = it:=by simpa using hb
  subst e
  obtain ⟨o,e,c,d⟩:=st
  exact ⟨o,e,fun v z=>by rw [d] at z;cases z⟩
 keep:=fun i h h' st k=>st.at fun o e=>k it (by simp) o e
 item:=by
  intro X hP hw hK hc i pins s σ H E I hf st hg
  subst hP hw hK
  obtain ⟨xs,x,hq,hx⟩:=hg
  obtain ⟨its,rv,p,hz⟩:=I.list hq
  obtain ⟨u,hu,ru⟩:=rv.get hx
  obtain ⟨f0,f1,f2,f3,f4,f5⟩:=hf it (by simp)
  refine wpAny_pyNext_list_item st p.isList (x:=u) (by simpa using hu) fun h' st' sb=>?_
  have I1:Inv X pins σ H { s with heap:=h' }:=I.turned (t':=s.toks) (fun b o hb e=>(sb.2 b hb).trans e) f0 f1 f3 f4 f5
  obtain ⟨o,e,c,d⟩:=id st'
  exact ⟨u,rfl,go_of (s:={ s with heap:=h' }) e c d (by decide) ⟨x,H,I1,ru,⟨rfl,fun ys hy=>by rw [I.list_inj hy hq];exact hx⟩,st',fun b hb=>(hf b hb).1⟩⟩
 done:=by
  intro X hP hw hK hc i pins s σ H E I hf st hg
  subst hP hw hK
  obtain ⟨xs,hq,hx⟩:=hg
  obtain ⟨its,rv,p,hz⟩:=I.list hq
  obtain ⟨f0,f1,f2,f3,f4,f5⟩:=hf it (by simp)
  have hl:=rv.length
  exact wpAny_pyNext_list_end (I.ok.hd hc) st p.isList (by simp;omega) fun h' eb=>⟨rfl,I.turned (t':=s.toks) (fun b o hb e=>eb b o hb e) f0 f1 f3 f4 f5⟩
 self:=fun _ _ _ _ _ st h=>wpAny_pyIter_listiter st h
theorem turn_tuple {P:Program} {w:World} {K:PySem.W.Frag} {tg:Expr} (a it:Addr):Turn P w K tg (Itt K a) [it] it (fun i h=>h.IsTupleIter it a i) where
 mem:=by simp
 obj:=fun i h st b hb=>by
  have e:b = it:=by simpa using hb
  subst e
  obtain ⟨o,e,c,d⟩:=st
  exact ⟨o,e,fun v z=>by rw [d] at z;cases z⟩
 keep:=fun i h h' st k=>st.at fun o e=>k it (by simp) o e
 item:=by
  intro X hP hw hK hc i pins s σ H E I hf st hg
  subst hP hw hK
  obtain ⟨xs,x,hq,hx⟩:=hg
  obtain ⟨its,rv,p,hz⟩:=I.tuple hq
  obtain ⟨u,hu,ru⟩:=rv.get hx
  obtain ⟨f0,f1,f2,f3,f4,f5⟩:=hf it (by simp)
  refine wpAny_pyNext_tuple_item st (show s.heap.IsTuple a its.toArray from p) (x:=u) (by simpa using hu) fun h' st' sb=>?_
  have I1:Inv X pins σ H { s with heap:=h' }:=I.turned (t':=s.toks) (fun b o hb e=>(sb.2 b hb).trans e) f0 f1 f3 f4 f5
  obtain ⟨o,e,c,d⟩:=id st'
  exact ⟨u,rfl,go_of (s:={ s with heap:=h' }) e c d (by decide) ⟨x,H,I1,ru,⟨rfl,fun ys hy=>by rw [I.tuple_inj hy hq];exact hx⟩,st',fun b hb=>(hf b hb).1⟩⟩
 done:=by
  intro X hP hw hK hc i pins s σ H E I hf st hg
  subst hP hw hK
  obtain ⟨xs,hq,hx⟩:=hg
  obtain ⟨its,rv,p,hz⟩:=I.tuple hq
  obtain ⟨f0,f1,f2,f3,f4,f5⟩:=hf it (by simp)
  have hl:=rv.length
  exact wpAny_pyNext_tuple_end (I.ok.hd hc) st (show s.heap.IsTuple a its.toArray from p) (by simp;omega) fun h' eb=>⟨rfl,I.turned (t':=s.toks) (fun b o hb e=>eb b o hb e) f0 f1 f3 f4 f5⟩
 self:=fun _ _ _ _ _ st h=>wpAny_pyIter_tupleiter st h
theorem turn_range {P:Program} {w:World} {K:PySem.W.Frag} {tg:Expr} (it:Addr) (lo:Int) (n:Nat):Turn P w K tg (Itr lo n) [it] it (fun i h=>IsRangeIter h it (lo+(i:Nat) * 1) ((n:Int) - (i:Nat)) 1) where
 mem:=by simp
 obj:=fun i h st b hb=>by
  have e:b = it:=by simpa using hb
  subst e
  exact ⟨_,st,fun v z=>by
   have z':Data.fields _ = Data.cell v:=z
   cases z'⟩
 keep:=fun i h h' st k=>k it (by simp) _ st
 item:=by
  intro X hP hw hK hc i pins s σ H E I hf st hg
  subst hP hw hK
  obtain ⟨f0,f1,f2,f3,f4,f5⟩:=hf it (by simp)
  have W:=Walks.range (prog:=X.prog) (w:=X.w) (I.ok.hd hc) it lo 1 n
  refine W.item i s _ _ hg st fun v h' tk hv st' kk=>?_
  obtain ⟨t,rfl⟩:=hv
  have I1:Inv X pins σ H { s with heap:=h',toks:=tk }:=I.turned (fun b o hb e=>kk b o (by simpa using hb) e) f0 f1 f3 f4 f5
  refine ⟨_,rfl,go_of (s:={ s with heap:=h',toks:=tk }) (n:="range_iterator") st' rfl rfl (by decide) ⟨.int (lo+i),H,I1,⟨t,?_⟩,⟨rfl,rfl⟩,st',fun b hb=>(hf b hb).1⟩⟩
  rw [Int.mul_one]
 done:=by
  intro X hP hw hK hc i pins s σ H E I hf st hg
  subst hP hw hK
  obtain ⟨f0,f1,f2,f3,f4,f5⟩:=hf it (by simp)
  exact wpAny_pyNext_range_end (I.ok.hd hc) st (by have:n≤i:=hg;omega) fun h' eb=>⟨rfl,I.turned (t':=s.toks) (fun b o hb e=>eb b o hb e) f0 f1 f3 f4 f5⟩
 self:=fun _ _ _ _ _ st h=>wpAny_pyIter_rangeiter st h
end L2
namespace L2
open PySem PySem.Spec PyProof.Rows
section
variable {X:Cx} {tg:Expr}
theorem range_it {pins:List (Addr × Obj)} {σ:St} {H:Hp} {s:Shared} {R:It→Hp→Prop} {E:Value→Shared→Prop} {lo hi:Int} {t u v:Tok} {tk:Nat} (I:Inv X pins σ H s) (h1:-(2 ^ 62)≤lo) (h2:lo < 2 ^ 62) (h3:-(2 ^ 62)≤hi) (h4:hi < 2 ^ 62)
 (q:R (Itr lo (hi - lo).toNat) H):wpAny (model X.prog X.w) X.A (pyIter (.ref s.heap.objs.size)) (PIE X pins σ tg R) E { s with heap:=s.heap.push { cls:=.type "range",data:=.fields #[.int lo t,.int hi u,.int 1 v] },toks:=tk }:=by
 refine wpAny_pyIter_range (IsRange.new ..) (small_one h1 h2 h3 h4) ?_
 have I1:Inv X pins σ H { s with heap:=s.heap.push { cls:=.type "range",data:=.fields #[.int lo t,.int hi u,.int 1 v] },toks:=tk }:=I.kept fun b o e=>Heap.get?_push_of_some _ e
 refine ⟨(s.heap.push { cls:=.type "range",data:=.fields #[.int lo t,.int hi u,.int 1 v] }).objs.size,[(s.heap.push { cls:=.type "range",data:=.fields #[.int lo t,.int hi u,.int 1 v] }).objs.size],_,_,H,rfl,
  I1.kept (t':=tk) fun b o e=>Heap.get?_push_of_some _ e,turn_range _ lo (hi - lo).toNat,?_,fun b hb=>?_,q⟩
 · have e1:lo+((0:Nat):Int) * 1 = lo:=by simp
   have e2:(((hi - lo).toNat:Nat):Int) - ((0:Nat):Int) = Builtin.Range.rangeSize lo hi 1:=by rw [rangeSize_one];split<;>omega
   show IsRangeIter _ _ (lo+((0:Nat):Int) * 1) ((((hi - lo).toNat:Nat):Int) - ((0:Nat):Int)) 1
   rw [e1,e2]
   exact Heap.get?_push_size _ rfl
 · have e:b = (s.heap.push { cls:=.type "range",data:=.fields #[.int lo t,.int hi u,.int 1 v] }).objs.size:=by simpa using hb
   subst e
   exact I1.fpOk (Nat.le_refl _) (I1.hok.fresh (Nat.le_refl _))
def iRng1 (ta:TA):TI:=fun σ H R=>ta σ H fun vs H1=>∃ j:Int,vs = [.int j]∧-(2 ^ 62)≤j∧j < 2 ^ 62∧R (Itr 0 j.toNat) H1
theorem pi_range1 {a:Expr} {ta:TA} {p pos:Pos} (hg:Gl X "range") (hm:X.mg "range" = none) (ha:PA X [a] ta) (hs:starEach [a] X.env = [(false,eval a X.env)]:=by rfl):PI X tg (.Call (.Name "range" p) [a] [] pos) (iRng1 ta):=by
 intro pins s σ H R I h
 refine Call_ (ld_blt I hg hm boot_range (PyProof.Rows.callWith_type1 (thn (ha pos pins s σ H _ I h) fun us s1 ⟨vs,H1,I1,r1,q1⟩=>?_) hs rfl))
 obtain ⟨j,e,q1,q2,q⟩:=q1
 subst e
 cases r1 with
 | cons r rr =>
   cases rr
   obtain ⟨t,rfl⟩:=r
   exact call_range_1 (range_it I1 (by omega) (by omega) q1 q2 (by simpa using q))
def tFor (wi:TI) (g:TG) (tb:TS):TS:=fun D σ H=>wi σ H fun J H1=>∃ W:Nat→Nat→St→Hp→Prop,(∃ m,W 0 m σ H1)∧∀ i m σ H,W i m σ H →
 (J.stop i H∧D.nx σ H)∨(J.go i H∧∃ N:St→Hp→Prop,(∀ σ' H',N σ' H'→∃ m',m' < m∧W (i+1) m' σ' H')∧∀ x H',J.yld i H x H'→g x σ H' fun σ2 H2=>tb { D with nx:=N,ct:=N,bk:=D.nx } σ2 H2)
def pinsAt (fp:List Addr) (h:Heap):List (Addr × Obj):=fp.filterMap fun b=>(h.get? b).map fun o=>(b,o)
theorem mem_pinsAt {fp:List Addr} {h:Heap} {b:Addr} {o:Obj} (hb:b∈fp) (e:h.get? b = some o):(b,o)∈pinsAt fp h:=List.mem_filterMap.mpr ⟨b,hb,by rw [e];rfl⟩
theorem of_pinsAt {fp:List Addr} {h:Heap} {p:Addr × Obj} (hp:p∈pinsAt fp h):p.1∈fp∧h.get? p.1 = some p.2:=by
 obtain ⟨b,hb,e⟩:=List.mem_filterMap.mp hp
 cases q:h.get? b with
 | none=>rw [q] at e;cases e
 | some o =>
   rw [q] at e
   have e':(b,o) = p:=Option.some.inj e
   subst e'
   exact ⟨hb,q⟩
theorem Inv.pinned {pins:List (Addr × Obj)} {σ:St} {H:Hp} {s:Shared} {fp:List Addr} (I:Inv X pins σ H s) (hf:∀ b∈fp,FpOk X pins H b) (ho:∀ b∈fp,∃ o,s.heap.get? b = some o∧∀ v,o.data≠.cell v):Inv X (pins++pinsAt fp s.heap) σ H s :=
 I.pins_of fun p hp=>(List.mem_append.mp hp).elim (fun z=>I.pin p (List.mem_append_right _ z)) fun z=>by
  obtain ⟨hb,e⟩:=of_pinsAt z
  obtain ⟨f0,f1,f2,_⟩:=hf p.1 hb
  obtain ⟨o,e',d⟩:=ho p.1 hb
  rw [e] at e';cases e'
  exact ⟨e,f0,f1,f2,d⟩
theorem Inv.unpinned {pins pl:List (Addr × Obj)} {σ:St} {H:Hp} {s:Shared} (I:Inv X (pins++pl) σ H s):Inv X pins σ H s:=I.pins_of fun p hp=>I.pin p (List.mem_append_right _ (List.mem_append_left _ hp))
theorem ps_for {iter:Expr} {body:List Stmt} {wi:TI} {g:TG} {tb:TS} {pos:Pos} (hp:PassesOwn (model X.prog X.w) X.A X.env X.xe) (hc:X.calm = true) (hi:PI X tg iter wi) (hg:PG X tg g) (hb:PSs X body tb)
 (hs:∀ x,foldedSetIterable iter X.env x = pure x:=by intro _;rfl):PS X (.For tg iter body [] pos) (tFor wi g tb):=by
 intro pins s σ H D I h
 refine wpAny_For (thn (hi pins s σ H _ I h) fun v s1 h1=>thn h1 fun itv s2 h2=>?_) hs
 obtain ⟨it,fp,tn,J,H2,e,I2,T,st2,f2,W,⟨m0,w0⟩,turn⟩:=h2
 subst e
 -- what stays true of the iterator's objects through the loop
 have stat:∀ {H':Hp},(∀ b∈fp,H' b = none)→∀ b∈fp,FpOk X pins H' b:=fun hn b hb=>⟨hn b hb,(f2 b hb).2⟩
 refine codeAny_forLoop_any (fun n s'=>∃ i σ' H',Inv X pins σ' H' s'∧tn i s'.heap∧(∀ b∈fp,H' b = none)∧W i n σ' H') ?_ m0 ⟨0,σ,H2,I2,st2,fun b hb=>(f2 b hb).1,w0⟩
 rintro n s3 ⟨i,σ3,H3,I3,st3,fr3,w3⟩
 rcases turn i n σ3 H3 w3 with ⟨stop,qn⟩ | ⟨go,N,hN,step⟩
 · refine wpAny_passesOwn hp (thn (T.done X rfl rfl rfl hc i pins s3 σ3 H3 X.xe I3 (stat fr3) st3 stop) fun r s4 ⟨hr,I4⟩=>?_)
   subst hr
   exact wpAny_execs_nil ⟨σ3,H3,I4,qn⟩
 · refine wpAny_passesOwn hp (thn (T.item X rfl rfl rfl hc i pins s3 σ3 H3 X.xe I3 (stat fr3) st3 go) fun r s4 ⟨u,hr,h4⟩=>?_)
   subst hr
   refine wpAny_passesOwn hp (thn h4 fun _ s5 ⟨x,H5,I5,r5,y5,st5,fr5⟩=>?_)
   have I5':=I5.pinned (stat fr5) (T.obj _ _ st5)
   refine wpAny_passesOwn hp (thn (hg _ s5 σ3 H5 x u _ I5' r5 (step x H5 y5)) fun _ s6 ⟨σ6,H6,I6,q6⟩=>?_)
   refine wpAny_passesOwn hp (thn (hb _ s6 σ6 H6 _ I6 q6) fun f s7 q7=>?_)
   have again:∀ {σ7:St} {H7:Hp},Inv X (pins++pinsAt fp s5.heap) σ7 H7 s7→N σ7 H7→∃ m,m < n∧∃ i σ' H',Inv X pins σ' H' s7∧tn i s7.heap∧(∀ b∈fp,H' b = none)∧W i m σ' H':=fun {σ7 H7} I7 n7=>by
    obtain ⟨m',hm,w7⟩:=hN σ7 H7 n7
    refine ⟨m',hm,i+1,σ7,H7,I7.unpinned,T.keep _ _ _ st5 fun b hb o e=>(I7.pin (b,o) (List.mem_append_right _ (List.mem_append_right _ (mem_pinsAt hb e)))).1,fun b hb=>?_,w7⟩
    obtain ⟨o,e,d⟩:=T.obj _ _ st5 b hb
    exact (I7.pin (b,o) (List.mem_append_right _ (List.mem_append_right _ (mem_pinsAt hb e)))).2.1
   cases f with
   | next=>obtain ⟨σ7,H7,I7,n7⟩:=q7;exact again I7 n7
   | cont=>obtain ⟨σ7,H7,I7,n7⟩:=q7;exact again I7 n7
   | brk=>obtain ⟨σ7,H7,I7,q7⟩:=q7;exact ⟨σ7,H7,I7.unpinned,q7⟩
   | ret v=>obtain ⟨x7,σ7,H7,I7,r7,q7⟩:=q7;exact ⟨x7,σ7,H7,I7.unpinned,r7,q7⟩
end
end L2
namespace L2
open PySem PySem.Spec PyProof.Rows
abbrev R2:=V→V→Hp→VK→Prop
def OpR (X:Cx) (f:Value→Value→Sem Value) (r:R2):Prop :=
 ∀ (pins:List (Addr × Obj)) (s:Shared) (σ:St) (H:Hp) (x y:V) (v u:Value) (Q:VK),Inv X pins σ H s→RelV x v→RelV y u→r x y H Q →
  wpAny (model X.prog X.w) X.A (f v u) (EP X pins σ Q) X.xe s
def CallR (X:Cx) (f:Value) (r:List V→Hp→VK→Prop):Prop :=
 ∀ (pins:List (Addr × Obj)) (s:Shared) (σ:St) (H:Hp) (xs:List V) (us:List Value) (Q:VK),Inv X pins σ H s→Vals xs us→r xs H Q →
  wpAny (model X.prog X.w) X.A (call f us) (EP X pins σ Q) X.xe s
def TruR (X:Cx) (r:V→Hp→(Bool→Hp→Prop)→Prop):Prop :=
 ∀ (pins:List (Addr × Obj)) (s:Shared) (σ:St) (H:Hp) (x:V) (v:Value) (Q:Bool→Hp→Prop),Inv X pins σ H s→RelV x v→r x H Q →
  wpAny (model X.prog X.w) X.A (truthy v) (TP X pins σ Q) X.xe s
def tOp (r:R2) (ta tb:TE):TE:=fun σ H Q=>ta σ H fun x H1=>tb σ H1 fun y H2=>r x y H2 Q
def rI (C:Int→Int→Prop) (g:Int→Int→V):R2:=fun x y H Q=>∃ i j,x = .int i∧y = .int j∧C i j∧Q (g i j) H
def rI0 (g:Int→Int→V):R2:=fun x y H Q=>∃ i j,x = .int i∧y = .int j∧Q (g i j) H
section
variable {X:Cx} {a b c:Expr} {ta tb tc:TE} {pos:Pos}
theorem binT (ha:PE X a ta) (hb:PE X b tb) {pins:List (Addr × Obj)} {s:Shared} {σ:St} {H:Hp} {R:V→V→Hp→Prop} (I:Inv X pins σ H s)
 (h:ta σ H fun x H1=>tb σ H1 fun y H2=>R x y H2) {Q:Value→Shared→Prop} {f:Value→Value→Sem Value}
 (hf:∀ v u s2 x y H2,Inv X pins σ H2 s2→RelV x v→RelV y u→R x y H2→wpAny (model X.prog X.w) X.A (f v u) Q X.xe s2) :
 wpAny (model X.prog X.w) X.A (eval a X.env) (fun v s₁=>wpAny (model X.prog X.w) X.A (eval b X.env) (fun u s₂=>wpAny (model X.prog X.w) X.A (f v u) Q X.xe s₂) X.xe s₁) X.xe s:=by
 refine thn (ha pins s σ H _ I h) fun v s1 ⟨x,H1,I1,r1,q1⟩=>?_
 refine thn (hb pins s1 σ H1 _ I1 q1) fun u s2 ⟨y,H2,I2,r2,q2⟩=>?_
 exact hf v u s2 x y H2 I2 r1 r2 q2
theorem pe_op {op:Operator} {r:R2} (ho:OpR X (binaryOp op) r) (ha:PE X a ta) (hb:PE X b tb):PE X (.BinOp a op b pos) (tOp r ta tb):=by
 intro pins s σ H Q I h
 exact wpAny_BinOp (binT ha hb I h fun v u s2 x y H2 I2 rx ry q=>ho pins s2 σ H2 x y v u Q I2 rx ry q)
theorem opI {f:Value→Value→Sem Value} {C:Int→Int→Prop} {g:Int→Int→Int}
 (rule:∀ (i j:Int) (t u:Tok) (s:Shared) (Q:Value→Shared→Prop) (E:Value→Shared→Prop),C i j→Q (.int (g i j) s.toks) { s with toks:=s.toks+1 }→wpAny (model X.prog X.w) X.A (f (.int i t) (.int j u)) Q E s) :
 OpR X f (rI C fun i j=>.int (g i j)):=by
 intro pins s σ H x y v u Q I rx ry h
 obtain ⟨i,j,rfl,rfl,hc,q⟩:=h
 obtain ⟨t,rfl⟩:=rx
 obtain ⟨t',rfl⟩:=ry
 exact rule i j t t' s _ _ hc ⟨.int (g i j),H,I.tok _,⟨_,rfl⟩,q⟩
theorem opI0 {f:Value→Value→Sem Value} {g:Int→Int→Int}
 (rule:∀ (i j:Int) (t u:Tok) (s:Shared) (Q:Value→Shared→Prop) (E:Value→Shared→Prop),Q (.int (g i j) s.toks) { s with toks:=s.toks+1 }→wpAny (model X.prog X.w) X.A (f (.int i t) (.int j u)) Q E s) :
 OpR X f (rI0 fun i j=>.int (g i j)):=by
 intro pins s σ H x y v u Q I rx ry h
 obtain ⟨i,j,rfl,rfl,q⟩:=h
 obtain ⟨t,rfl⟩:=rx
 obtain ⟨t',rfl⟩:=ry
 exact rule i j t t' s _ _ ⟨.int (g i j),H,I.tok _,⟨_,rfl⟩,q⟩
theorem opB0 {f:Value→Value→Sem Value} {g:Int→Int→Bool}
 (rule:∀ (i j:Int) (t u:Tok) (s:Shared) (Q:Value→Shared→Prop) (E:Value→Shared→Prop),Q (.bool (g i j)) s→wpAny (model X.prog X.w) X.A (f (.int i t) (.int j u)) Q E s) :
 OpR X f (rI0 fun i j=>.bl (g i j)):=by
 intro pins s σ H x y v u Q I rx ry h
 obtain ⟨i,j,rfl,rfl,q⟩:=h
 obtain ⟨t,rfl⟩:=rx
 obtain ⟨t',rfl⟩:=ry
 exact rule i j t t' s _ _ ⟨.bl (g i j),H,I,rfl,q⟩
def CDiv (i j:Int):Prop:=0 < j∧j < 1073741824
def CPow (i j:Int):Prop:=0≤j∧j≤1000000∧i.natAbs < 2 ^ 64
def CMul (i j:Int):Prop:=(-(2 ^ 64) < i∧i < 2 ^ 64)∨(-(2 ^ 64) < j∧j < 2 ^ 64)
theorem CMul.ok {i j:Int} (h:CMul i j):IntMulOk i j:=by
 rcases h with ⟨h1,h2⟩ | ⟨h1,h2⟩
 · exact .of_left (intBits_le_64 h1 h2)
 · exact .of_right (intBits_le_64 h1 h2)
theorem op_add:OpR X (binaryOp .Add) (rI0 fun i j=>.int (i+j)):=opI0 fun _ _ _ _ _ _ _ q=>add_int q
theorem op_sub:OpR X (binaryOp .Sub) (rI0 fun i j=>.int (i - j)):=opI0 fun _ _ _ _ _ _ _ q=>sub_int q
theorem op_mul:OpR X (binaryOp .Mult) (rI CMul fun i j=>.int (i * j)):=opI fun _ _ _ _ _ _ _ hc q=>mul_int q hc.ok
theorem op_fdiv:OpR X (binaryOp .FloorDiv) (rI CDiv fun i j=>.int (i / j)):=opI fun i j _ _ _ _ _ hc q=>by
 have h1:(0:Int) < j:=hc.1
 have h2:j < 1073741824:=hc.2
 exact floordiv_int (by omega) (by rw [Int.fdiv_eq_ediv_of_nonneg i (by omega)];exact q) (.inl (PyProof.noPylong_small (by omega)))
theorem op_mod:OpR X (binaryOp .Mod) (rI (fun _ j=>0 < j) fun i j=>.int (i % j)):=opI fun i j _ _ _ _ _ hc q=>by
 have h1:(0:Int) < j:=hc
 exact mod_int' (by omega) (by rw [Int.fmod_eq_emod_of_nonneg i (by omega)];exact q)
theorem op_pow:OpR X (binaryOp .Pow) (rI CPow fun i j=>.int (i ^ j.toNat)):=opI fun _ _ _ _ _ _ _ hc q=>pow_int_small hc.1 hc.2.1 hc.2.2 q
end
section
variable {X:Cx} {a b c:Expr} {ta tb tc:TE} {pos:Pos}
theorem fin_bl {pins:List (Addr × Obj)} {σ:St} {H:Hp} {s:Shared} {Q:VK} {k k':Bool} (I:Inv X pins σ H s) (q:Q (.bl k) H) (e:k = k'):EP X pins σ Q (.bool k') s:=by
 subst e
 exact ⟨.bl k,H,I,rfl,q⟩
theorem op_gt:OpR X (compareOp .Gt) (rI0 fun i j=>.bl (decide (j < i))):=opB0 fun _ _ _ _ _ _ _ q=>gt_int q
theorem op_in_str:OpR X (compareOp .In) (fun x y H Q=>∃ i j,x = .str i∧y = .str j∧Q (.bl (!(Builtin.Str.occurrences j i 0 j.length 1).isEmpty)) H):=by
 intro pins s σ H x y v u Q I rx ry h
 obtain ⟨i,j,rfl,rfl,q⟩:=h
 obtain ⟨t,rfl⟩:=rx
 obtain ⟨t',rfl⟩:=ry
 exact in_str (fin_bl I q rfl)
theorem OpR.or {f:Value→Value→Sem Value} {r r':R2} (h:OpR X f r) (h':OpR X f r'):OpR X f (fun x y H Q=>r x y H Q∨r' x y H Q):=by
 intro pins s σ H x y v u Q I rx ry q
 rcases q with q | q
 · exact h pins s σ H x y v u Q I rx ry q
 · exact h' pins s σ H x y v u Q I rx ry q
theorem pe_cmpR {op:CmpOp} {r:R2} (ho:OpR X (compareOp op) r) (ha:PE X a ta) (hb:PE X b tb) (hm:behindInMarks op b = false):PE X (.Compare a [op] [b] pos) (tOp r ta tb):=by
 intro pins s σ H Q I h
 exact wpAny_Compare1 (binT ha hb I h fun v u s2 x y H2 I2 rx ry q=>ho pins s2 σ H2 x y v u Q I2 rx ry q) hm
def tTest (t:TE):TT:=fun σ H Q=>t σ H fun x H'=>∃ k,x = .bl k∧Q k H'
theorem pt_cmpR {op:CmpOp} {r:R2} (ho:OpR X (compareOp op) r) (ha:PE X a ta) (hb:PE X b tb) (hm:behindInMarks op b = false):PT X (.Compare a [op] [b] pos) (tTest (tOp r ta tb)):=by
 intro pins s σ H Q I h
 refine wpAny_isTrue_Compare1 (thn (ha pins s σ H _ I h) fun v s1 ⟨x,H1,I1,r1,q1⟩=>thn (hb pins s1 σ H1 _ I1 q1) fun u s2 ⟨y,H2,I2,r2,q2⟩ =>
  thn (ho pins s2 σ H2 x y v u _ I2 r1 r2 q2) fun c s3 ⟨z,H3,I3,r3,k,e,q3⟩=>?_) hm
 subst e
 cases r3
 exact wpAny_truthy_bool ⟨H3,I3,q3⟩
def TruV (K:PySem.W.Frag) (x:V) (H:Hp) (k:Bool):Prop :=
 match x with
 | .non=>k = false
 | .bl b=>k = b
 | .int i=>k = (i != 0)
 | .str y=>y.length≤sizeLine∧k = ((y.length:Int) != 0)
 | .byt y=>y.size≤sizeLine∧k = ((y.size:Int) != 0)
 | .ref p=>(∃ xs,SqL K H p xs∧k = !xs.isEmpty)∨(∃ xs,SqT K H p xs∧k = !xs.isEmpty)∨∃ kvs,H p = some (.dK kvs)∧k = !kvs.isEmpty
 | _=>False
theorem isEmpty_kv {κ:Type} {kvs:List (κ × V)} {vs:List (κ × Value)} (r:KV kvs vs):(!vs.isEmpty) = !kvs.isEmpty:=by
 cases r<;>rfl
theorem isEmpty_of {xs:List V} {its:List Value} (r:Vals xs its):(!its.toArray.isEmpty) = !xs.isEmpty:=by
 cases r<;>simp
theorem line63:(sizeLine:Nat) < 2 ^ 63:=by rw [sizeLine_eq];decide
theorem tru_ok:TruR X (fun x H Q=>∃ k,TruV X.K x H k∧Q k H):=by
 intro pins s σ H x v Q I rx h
 obtain ⟨k,e,q⟩:=h
 have hl:=line63
 have hs:sizeLine = 16777216:=sizeLine_eq
 cases x with
 | non =>
   cases rx
   have e':k = false:=e
   subst e'
   exact truthy_none ⟨H,I,q⟩
 | bl b =>
   cases rx
   have e':k = b:=e
   subst e'
   exact wpAny_truthy_bool ⟨H,I,q⟩
 | int i =>
   obtain ⟨t,rfl⟩:=rx
   have e':k = (i != 0):=e
   subst e'
   exact PySem.P.truthy_int ⟨H,I,q⟩
 | str y =>
   obtain ⟨t,rfl⟩:=rx
   obtain ⟨hy,e'⟩:y.length≤sizeLine∧k = ((y.length:Int) != 0):=e
   subst e'
   exact PySem.P.truthy_str (by omega) ⟨H,I.tok _,q⟩
 | byt y =>
   obtain ⟨t,rfl⟩:=rx
   obtain ⟨hy,e'⟩:y.size≤sizeLine∧k = ((y.size:Int) != 0):=e
   subst e'
   exact PySem.W.truthy_bytes (by omega) ⟨H,I.tok _,q⟩
 | ref p =>
   cases rx
   have e':(∃ xs,SqL X.K H p xs∧k = !xs.isEmpty)∨(∃ xs,SqT X.K H p xs∧k = !xs.isEmpty)∨∃ kvs,H p = some (.dK kvs)∧k = !kvs.isEmpty:=e
   rcases e' with ⟨xs,hx,e'⟩ | ⟨xs,hx,e'⟩ | ⟨kvs,hx,e'⟩
   · subst e'
     obtain ⟨its,r,pl,hz⟩:=I.list hx
     have hlen:=r.length
     exact wpAny_truthy_list pl.isList (by simp only [List.size_toArray];omega) ⟨H,I.tok _,by rw [isEmpty_of r];exact q⟩
   · subst e'
     obtain ⟨its,r,pl,hz⟩:=I.tuple hx
     have hlen:=r.length
     exact truthy_tuple pl (by simp only [List.size_toArray];omega) ⟨H,I.tok _,by rw [isEmpty_of r];exact q⟩
   · subst e'
     obtain ⟨hz,hS,vs,r,m⟩:kvs.length≤sizeLine∧(p == sysModules) = false∧∃ vs,KV kvs vs∧s.heap.DictOf (mixKind X.prog X.w) p vs:=I.hok p _ hx
     have hlen:kvs.length = vs.length:=Paired.length r
     exact wpAny_truthy_dict hS m (by omega) ⟨H,I.tok _,by rw [isEmpty_kv r];exact q⟩
 | _=>exact (show False from e).elim
theorem pt_truth (ha:PE X a ta) (he:∀ whole,isTrue a X.env whole = (do let v ← whole;standAt a.pos;holding [v] (truthy v))) :
 PT X a (fun σ H Q=>ta σ H fun x H'=>∃ k,TruV X.K x H' k∧Q k H'):=by
 intro pins s σ H Q I h
 exact isTrue_plain (thn (ha pins s σ H _ I h) fun v s1 ⟨x,H1,I1,r1,q1⟩=>tru_ok pins s1 σ H1 x v Q I1 r1 q1) (he _)
theorem op_add_str:OpR X (binaryOp .Add) (fun x y H Q=>∃ i j,x = .str i∧y = .str j∧i.length+j.length≤sizeLine∧Q (.str (i++j)) H):=by
 intro pins s σ H x y v u Q I rx ry h
 obtain ⟨i,j,rfl,rfl,hz,q⟩:=h
 obtain ⟨t,rfl⟩:=rx
 obtain ⟨t',rfl⟩:=ry
 exact add_str (fun t' tk=>⟨.str (i++j),H,I.tok _,⟨_,rfl⟩,q⟩) hz
theorem vals1 {x:V} {us:List Value} (r:Vals [x] us):∃ u,us = [u]∧RelV x u:=by
 cases r with
 | cons r1 r2=>cases r2;exact ⟨_,rfl,r1⟩
theorem vals2 {x y:V} {us:List Value} (r:Vals [x,y] us):∃ u w',us = [u,w']∧RelV x u∧RelV y w':=by
 cases r with
 | cons r1 r2 =>
   cases r2 with
   | cons r3 r4=>cases r4;exact ⟨_,_,rfl,r1,r3⟩
theorem call_max2 (hc:X.calm = true):CallR X (.builtin "max") (fun xs H Q=>∃ i j,xs = [.int i,.int j]∧Q (.int (if j > i then j else i)) H):=by
 intro pins s σ H xs us Q I r h
 obtain ⟨i,j,rfl,q⟩:=h
 obtain ⟨u,w',rfl,⟨t,rfl⟩,⟨t',rfl⟩⟩:=vals2 r
 refine max_two_ints (I.ok.hd hc) fun h' tk k=>⟨_,H,I.kept k,?_,q⟩
 by_cases hj:j > i
 · rw [if_pos hj,if_pos hj];exact ⟨_,rfl⟩
 · rw [if_neg hj,if_neg hj];exact ⟨_,rfl⟩
theorem call_min2 (hc:X.calm = true):CallR X (.builtin "min") (fun xs H Q=>∃ i j,xs = [.int i,.int j]∧Q (.int (if j < i then j else i)) H):=by
 intro pins s σ H xs us Q I r h
 obtain ⟨i,j,rfl,q⟩:=h
 obtain ⟨u,w',rfl,⟨t,rfl⟩,⟨t',rfl⟩⟩:=vals2 r
 refine min_two_ints (I.ok.hd hc) fun h' tk k=>⟨_,H,I.kept k,?_,q⟩
 by_cases hj:j < i
 · rw [if_pos hj,if_pos hj];exact ⟨_,rfl⟩
 · rw [if_neg hj,if_neg hj];exact ⟨_,rfl⟩
theorem call_int1:CallR X (.type "int") (fun xs H Q=>(∃ i,xs = [.int i]∧Q (.int i) H)∨∃ k,xs = [.bl k]∧Q (.int (if k then 1 else 0)) H):=by
 intro pins s σ H xs us Q I r h
 rcases h with ⟨i,rfl,q⟩ | ⟨k,rfl,q⟩
 · obtain ⟨u,rfl,t,rfl⟩:=vals1 r
   exact call_int_int ⟨.int i,H,I,⟨_,rfl⟩,q⟩
 · obtain ⟨u,rfl,r1⟩:=vals1 r
   cases r1
   exact call_int_bool ⟨.int (if k then 1 else 0),H,I.tok _,⟨_,rfl⟩,q⟩
theorem call_str_int:CallR X (.type "str") (fun xs H Q=>∃ i,xs = [.int i]∧i.natAbs.log2 < 1920∧Q (.str (toString i)) H):=by
 intro pins s σ H xs us Q I r h
 obtain ⟨i,rfl,hz,q⟩:=h
 obtain ⟨u,rfl,t,rfl⟩:=vals1 r
 exact PySem.P.str_of_int hz ⟨.str _,H,I.tok _,⟨_,rfl⟩,q⟩
end
end L2
namespace L2
open PySem PySem.Spec PyProof.Rows
structure ObjM (h:Heap) (x dx C:Addr) (mA:Str→Option Value):Prop where
 obj:h.get? x = some (PySem.W.instObj C dx)
 ns:h.Ns1 dx mA
 ne:dx≠x
section
variable {prog:Program} {w:World} {A:Around} {E:Value→Shared→Prop} {s:Shared} {K:PySem.W.Frag} {x dx C f:Addr} {mA:Str→Option Value} {name:Str} {v:Value}
end
section
variable {P:Program} {w:World} {H H':Hp} {h h':Heap} {a C dx:Addr} {fs fs':List (Str × V)}
end
structure Cls (K:PySem.W.Frag) (C:Addr):Prop where
 pg:PySem.W.plainGet K C Str.empty = true
 hd:PySem.W.hasDictIn K C = true
 po:PySem.W.plainOver K C = true
 sa:PySem.W.findIn K (.ref C) "__setattr__" = some (some (.builtin "object.__setattr__"))
structure Con (K:PySem.W.Frag) (C:Addr) (f:Str) (v:V) (u:Value):Prop where
 at_:PySem.W.findIn K (.ref C) f = some (some u)
 rel:RelV v u
 get:PySem.W.specialIn K u "__get__" = some none
 cp:PySem.W.copiedNames.contains f = false
structure Meth (K:PySem.W.Frag) (C:Addr) (m:Str) (f:Addr):Prop where
 at_:PySem.W.findIn K (.ref C) m = some (some (.ref f))
 fn:PySem.W.isFn K (.ref f) = true
 kp:PySem.W.keepIn K (.ref f) = true
section
variable {X:Cx} {pins:List (Addr × Obj)} {σ:St} {H:Hp} {s:Shared} {a C dx:Addr} {fs:List (Str × V)} {f:Str} {v:V} {A:Around} {E:Value→Shared→Prop}
end
section
variable {X:Cx} {o e value:Expr} {f:Str} {pos pos' tpos:Pos} {ta tv:TE}
end
section
variable {X:Cx} {pins:List (Addr × Obj)} {σ:St} {H:Hp} {s:Shared} {A:Around} {E:Value→Shared→Prop} {Q:Value→Shared→Prop} {c:Value} {b:Bool}
inductive TyOf (K:PySem.W.Frag) (H:Hp):V→Value→Prop where
 | non:TyOf K H .non (.type "NoneType")
 | bl (x:Bool):TyOf K H (.bl x) (.type "bool")
 | int (i:Int):TyOf K H (.int i) (.type "int")
 | str (x:Str):TyOf K H (.str x) (.type "str")
 | flt (x:UInt64):TyOf K H (.flt x) (.type "float")
 | lst {a:Addr} {xs:List V} (e:H a = some (.lst xs)):TyOf K H (.ref a) (.type "list")
 | frz {a:Addr} {o:Obj} {xs:List V} (e:H a = some (.frz o (.lst xs))):TyOf K H (.ref a) (.type "list")
 | tup {a:Addr} {xs:List V} (e:H a = some (.tup xs)):TyOf K H (.ref a) (.type "tuple")
 | dK {a:Addr} {kvs:List (Key × V)} (e:H a = some (.dK kvs)):TyOf K H (.ref a) (.type "dict")
 | dT {a:Addr} {kvs:List (List Key × V)} (e:H a = some (.dT kvs)):TyOf K H (.ref a) (.type "dict")
 | ins {a C dx:Addr} {fs:List (Str × V)} (e:H a = some (.ins C dx fs)) (cl:Cls K C) (ha:PySem.W.findIn K (.ref C) "__class__" = some (some (.builtin "object.__class__")))
    (hn:PySem.W.specialIn K (.builtin "object.__class__") "__get__" = some (some (.builtin "getset_descriptor.__get__"))) (htk:PySem.W.takesIn K (.builtin "object.__class__") = some true)
    (hm:PySem.W.mroIn K C (.type "object") = some true):TyOf K H (.ref a) (.ref C)
end
end L2
namespace L2
open PySem PySem.Spec PyProof.Rows
structure Room (k:Nat) (A:Around):Prop where
 hd:A.handled = none
 dp:A.depth+3 * k+5 < recursionLimit
 un:A.units+16 * k+200 < cLine
theorem Room.deeper {k:Nat} {A:Around} (r:Room (k+1) A) (env:Env):Room k (A.deeper env) :=
 ⟨r.hd,by have:=r.dp;show A.depth+1+3 * k+5 < _;omega,by have:=r.un;show A.units+3+16 * k+200 < _;omega⟩
theorem Room.depth {k:Nat} {A:Around} (r:Room k A):A.depth < recursionLimit:=by have:=r.dp;omega
def tNil:TA:=fun _ H Q=>Q [] H
def tCons (ta:TE) (tr:TA):TA:=fun σ H Q=>ta σ H fun x H1=>tr σ H1 fun xs H2=>Q (x::xs) H2
section
variable {X:Cx} {e:Expr} {es:List Expr} {te:TE} {t:TA} {pos:Pos}
theorem pa_nil:PA X [] tNil:=fun _ _ _ _ H Q I h=>Calls.spliced_nil ⟨[],H,I,.nil,h⟩
theorem pa_cons (ha:PE X e te) (hr:PA X es t) (hs:starEach (e::es) X.env = (false,eval e X.env)::starEach es X.env:=by rfl):PA X (e::es) (tCons te t):=by
 intro pos pins s σ H Q I h
 rw [hs]
 show wpAny _ _ (spliced ((false,eval e X.env)::backTo pos (starEach es X.env))) _ _ s
 refine Calls.spliced_cons (thn (ha pins s σ H _ I h) fun u s1 ⟨x,H1,I1,r1,q1⟩=>?_)
 exact thn (hr pos pins s1 σ H1 _ I1 q1) fun us s2 ⟨xs,H2,I2,r2,q2⟩=>⟨x::xs,H2,I2,.cons r1 r2,q2⟩
def tTup (t:TA):TE:=fun σ H Q=>t σ H fun xs H1=>xs.length≤sizeLine∧∀ p,H1 p = none→Q (.ref p) (upd H1 p (.tup xs))
def tLst (t:TA):TE:=fun σ H Q=>t σ H fun xs H1=>xs.length≤sizeLine∧∀ p,H1 p = none→Q (.ref p) (upd H1 p (.lst xs))
theorem pe_tup {x1} (h:PA X es t):PE X (.Tuple es x1 pos) (tTup t):=by
 intro pins s σ H Q I hq
 refine wpAny_Tuple_spliced (thn (h pos pins s σ H _ I hq) fun us s1 ⟨xs,H1,I1,r,z,q⟩=>⟨by rw [← r.length];exact z,?_⟩)
 have hf:H1 s1.heap.objs.size = none:=I1.hok.fresh (Nat.le_refl _)
 refine ⟨.ref s1.heap.objs.size,upd H1 s1.heap.objs.size (.tup xs),I1.laid (t':=s1.toks) (fun b u e=>Heap.get?_push_of_some _ e) (Nat.le_refl _) ?_,rfl,q _ hf⟩
 exact ⟨z,us,r,⟨_,Heap.get?_push_size _ rfl,rfl,_,rfl⟩⟩
theorem pe_lst (h:PA X es t):PE X (.List es pos) (tLst t):=by
 intro pins s σ H Q I hq
 refine wpAny_List_spliced (thn (h pos pins s σ H _ I hq) fun us s1 ⟨xs,H1,I1,r,z,q⟩=>⟨by rw [← r.length];exact z,?_⟩)
 have hf:H1 s1.heap.objs.size = none:=I1.hok.fresh (Nat.le_refl _)
 refine ⟨.ref s1.heap.objs.size,upd H1 s1.heap.objs.size (.lst xs),I1.laid (t':=s1.toks) (fun b u e=>Heap.get?_push_of_some _ e) (Nat.le_refl _) ?_,rfl,q _ hf⟩
 exact ⟨z,us,0,r,Heap.get?_push_size _ rfl⟩
end
abbrev Sp:=List V→Hp→VK→XK→Prop
abbrev CXT:=List Env→Hp→Shared→XK→Value→Shared→Prop
structure Env0 (P:Program) (w:World) (K:PySem.W.Frag) (mg:Str→Option Value) (base:Heap) (A:Around) (outer:List Env) (s:Shared) (H:Hp):Prop where
 frames:A.frames = some outer
 mod:Mod K mg base
 bs:∀ b o,base.get? b = some o→s.heap.get? b = some o∧H b = none
 bsz:base.objs.size≤s.heap.objs.size
 funs:s.heap.FunFrames base outer
 frf:∀ b∈frs outer,H b = none
 hok:HOk P w H s.heap
 bare:AllBare s.gens
def CE (outer:List Env) (P:Program) (w:World) (H:Hp) (s:Shared) (Q:VK) (u:Value) (s':Shared):Prop :=
 ∃ v H',s'.os = s.os∧AllBare s'.gens∧Un (frs outer) [] H H' s.heap s'.heap∧HOk P w H' s'.heap∧RelV v u∧Q v H'
def CR (CX:CXT) (outer:List Env) (P:Program) (w:World) (H:Hp) (s:Shared) (Q:VK) (E:XK) (r:Result) (s':Shared):Prop :=
 match r with
 | .ok (.ret u)=>CE outer P w H s Q u s'
 | .ok _=>False
 | .error e=>CX outer H s E e s'
structure FnOk (P:Program) (w:World) (K:PySem.W.Frag) (mg:Str→Option Value) (base:Heap) (CX:CXT) (k:Nat) (f:Addr) (fd:FuncData) (ps:List Str) (sp:Sp):Prop where
 len:∀ vs H Q E,sp vs H Q E→vs.length = ps.length
 run:∀ (A:Around) (outer:List Env) (s:Shared) (H:Hp) (args:Args) (us:List Value) (vs:List V) (Q:VK) (E:XK),Room k A→Env0 P w K mg base A outer s H→BindsTo s fd args (ps.zip us)→Vals vs us→sp vs H Q E →
  codeAny (model P w) A (.call (.ref f) args) (CR CX outer P w H s Q E) s
section
variable {X:Cx} {pins:List (Addr × Obj)} {σ:St} {H:Hp} {s s':Shared}
theorem Inv.env0 (I:Inv X pins σ H s):Env0 X.prog X.w X.K X.mg X.base X.A X.stack s H :=
 ⟨I.ok.frames,I.ok.mod,I.bs,Nat.le_trans I.ok.bsz I.sz,I.stack,I.stkFree,I.hok,I.bare⟩
theorem Inv.after {Q:VK} {u:Value} (I:Inv X pins σ H s) (h:CE X.stack X.prog X.w H s Q u s'):EP X pins σ Q u s':=by
 obtain ⟨v,H',os,bare,un,hok,r,q⟩:=h
 obtain ⟨hh,g,d,t,os'⟩:=s'
 obtain rfl:os' = s.os:=os
 exact ⟨v,H',I.call (h':=hh) (g':=g) (d':=d) (t':=t) (ch:=[]) un hok bare (fun b z=>absurd z (by simp)),r,q⟩
end
def tCall (sp:Sp) (dvs:List V) (E:XK) (t:TA):TE:=fun σ H Q=>t σ H fun vs H1=>sp (vs++dvs) H1 Q E
def Binds (K:PySem.W.Frag) (fd:FuncData) (ps:List Str) (ds:List Value):Prop :=
 ∀ (s:Shared) (us:List Value),K.In s.heap→(us++ds).length = ps.length→BindsTo s fd ⟨us,[]⟩ (ps.zip (us++ds))
theorem Binds.all {K:PySem.W.Frag} {fd:FuncData} {ps:List Str} (h:∀ us:List Value,us.length = ps.length→bindArgs fd ⟨us,[]⟩ = pure (ps.zip us)):Binds K fd ps []:=fun s us _ hl=>by
 rw [List.append_nil] at hl ⊢
 exact .of_eq (h us hl)
def Passes (CX:CXT) (X:Cx) (E:XK):Prop:=∀ (pins:List (Addr × Obj)) (σ:St) (H:Hp) (s:Shared) (e:Value) (s':Shared),Inv X pins σ H s→CX X.stack H s E e s'→X.xe e s'
section
variable {X:Cx} {CX:CXT} {k:Nat} {f C:Addr} {fd:FuncData} {ps:List Str} {sp:Sp} {dvs:List V} {ds:List Value} {E:XK} {x m:Str} {p pos apos:Pos} {e o:Expr} {es:List Expr} {ta:TE} {t:TA}
theorem run_fn {pins:List (Addr × Obj)} {σ:St} {H:Hp} {s:Shared} {Q:VK} {us:List Value} {vs:List V} (F:FnOk X.prog X.w X.K X.mg X.base CX k f fd ps sp) (hr:Room k X.A) (hb:Binds X.K fd ps ds) (hd:Vals dvs ds) (hx:Passes CX X E)
 (I:Inv X pins σ H s) (r:Vals vs us) (h:sp (vs++dvs) H Q E):wpAny (model X.prog X.w) X.A (call (.ref f) us) (EP X pins σ Q) X.xe s:=by
 have r2:Vals (vs++dvs) (us++ds):=r.append hd
 have hl:(us++ds).length = ps.length:=by rw [← r2.length];exact F.len _ _ _ _ h
 refine wpAny_call (codeAny_mono (F.run X.A X.stack s H ⟨us,[]⟩ (us++ds) (vs++dvs) Q E hr I.env0 (hb s us I.kIn hl) r2 h) fun r s' hq=>?_)
 cases r with
 | error e=>exact hx pins σ H s e s' I hq
 | ok fl =>
   cases fl with
   | ret u=>exact I.after hq
   | next=>exact False.elim hq
   | brk=>exact False.elim hq
   | cont=>exact False.elim hq
theorem pe_call (F:FnOk X.prog X.w X.K X.mg X.base CX k f fd ps sp) (hr:Room k X.A) (hg:Gl X x) (hm:X.mg x = some (.ref f)) (hk:PySem.W.keepIn X.K (.ref f) = true) (hb:Binds X.K fd ps ds) (hd:Vals dvs ds) (hx:Passes CX X E)
 (ha:PA X (e::es) t) (hdb:(x == ("__debug__":Str)) = false:=by decide) (he:starEach (e::es) X.env = (false,eval e X.env)::starEach es X.env:=by rfl) (hpl:(backTo pos (starEach es X.env)).any (·.1) = false:=by rfl) :
 PE X (.Call (.Name x p) (e::es) [] pos) (tCall sp dvs E t):=by
 intro pins s σ H Q I h
 refine wpAny_Call_Name_kw (ld_glob I hg hm ?_ hdb)
 refine PySem.W.callWith_K (h₀:=X.base) I.ok.mod.kin hk (thn (ha pos pins s σ H _ I h) fun us s1 ⟨vs,H1,I1,r,q⟩=>⟨I1.kIn,?_⟩) he hpl
 exact run_fn F hr hb hd hx I1 r q
structure Mk (K:PySem.W.Frag) (C f:Addr):Prop where
 makes:PySem.W.makesIn K C = true
 init:PySem.W.findIn K (.ref C) "__init__" = some (some (.ref f))
 fn:PySem.W.isFn K (.ref f) = true
 kp:PySem.W.keepIn K (.ref C) = true
end
section
variable {X:Cx} {CX:CXT} {k:Nat} {f C:Addr} {fd:FuncData} {ps ks:List Str} {sp:Sp} {E:XK} {x m:Str} {p pos apos kpos:Pos} {e o:Expr} {es:List Expr} {kws:List Keyword} {te ta:TE} {t tk:TA} {nm:Option Str}
structure KBinds (K:PySem.W.Frag) (fd:FuncData) (ps ks:List Str) (g:List Value→List Value→List Value) (gV:List V→List V→List V):Prop where
 to:∀ (s:Shared) (us ws:List Value),K.In s.heap→(g us ws).length = ps.length→BindsTo s fd ⟨us,ks.zip ws⟩ (ps.zip (g us ws))
 rel:∀ {vs:List V} {us:List Value} {zs:List V} {ws:List Value},Vals vs us→Vals zs ws→Vals (gV vs zs) (g us ws)
variable {g:List Value→List Value→List Value} {gV:List V→List V→List V}
end
structure FnScope (N P:List Str) (sc:Scope):Prop where
 kind:sc.kind = .function
 co:sc.isCoroutine = false
 gen:sc.isGenerator = false
 nd:N.Nodup
 pre:N.take P.length = P
 par:∀ x∈P,sc.names.lookup x = some .local∨sc.names.lookup x = some .cell
 nofree:∀ y∈sc.names,y.2≠.free
theorem bindL_out {kindOf:Str→Option NameKind} {x:Str}:∀ {binds:List (Str × Value)} {m:Str→Option Value},(∀ v,(x,v)∉binds)→bindL kindOf binds m x = m x
 | [],_,_=>rfl
 | (n,v)::r,m,h=>by
   unfold bindL
   rw [bindL_out fun w hw=>h w (List.mem_cons_of_mem _ hw)]
   split
   · have:x≠n:=by rintro rfl;exact h v List.mem_cons_self
     simp [this]
   · rfl
theorem bindC_out {kindOf:Str→Option NameKind} {x:Str}:∀ {binds:List (Str × Value)} {m:Str→Option Value},(∀ v,(x,v)∉binds)→bindC kindOf binds m x = m x
 | [],_,_=>rfl
 | (n,v)::r,m,h=>by
   unfold bindC
   rw [bindC_out fun w hw=>h w (List.mem_cons_of_mem _ hw)]
   split
   · rfl
   · have:x≠n:=by rintro rfl;exact h v List.mem_cons_self
     simp [this]
theorem bindL_get {kindOf:Str→Option NameKind} {x:Str} {v:Value}:∀ {P:List Str} {vs:List Value} {i:Nat} {m:Str→Option Value},P.Nodup→P[i]? = some x→vs[i]? = some v→kindOf x = some .local →
 bindL kindOf (P.zip vs) m x = some v
 | [],_,_,_,_,h,_,_=>by simp at h
 | _::_,[],_,_,_,_,h,_=>by simp at h
 | p::P,w::vs,0,m,nd,h1,h2,hk=>by
   simp at h1 h2;subst h1;subst h2
   show bindL kindOf ((p,w)::P.zip vs) m p = _
   unfold bindL
   rw [bindL_out fun v hv=>(List.nodup_cons.mp nd).1 (List.of_mem_zip hv).1,if_pos hk]
   simp
 | p::P,w::vs,i+1,m,nd,h1,h2,hk=>by
   show bindL kindOf ((p,w)::P.zip vs) m x = _
   unfold bindL
   exact bindL_get (i:=i) (List.nodup_cons.mp nd).2 (by simpa using h1) (by simpa using h2) hk
theorem bindC_get {kindOf:Str→Option NameKind} {x:Str} {v:Value}:∀ {P:List Str} {vs:List Value} {i:Nat} {m:Str→Option Value},P.Nodup→P[i]? = some x→vs[i]? = some v→kindOf x≠some .local →
 bindC kindOf (P.zip vs) m x = some v
 | [],_,_,_,_,h,_,_=>by simp at h
 | _::_,[],_,_,_,_,h,_=>by simp at h
 | p::P,w::vs,0,m,nd,h1,h2,hk=>by
   simp at h1 h2;subst h1;subst h2
   show bindC kindOf ((p,w)::P.zip vs) m p = _
   unfold bindC
   rw [bindC_out fun v hv=>(List.nodup_cons.mp nd).1 (List.of_mem_zip hv).1,if_neg hk]
   simp
 | p::P,w::vs,i+1,m,nd,h1,h2,hk=>by
   show bindC kindOf ((p,w)::P.zip vs) m x = _
   unfold bindC
   exact bindC_get (i:=i) (List.nodup_cons.mp nd).2 (by simpa using h1) (by simpa using h2) hk
def start (N:List Str) (vs:List V):St:=vs.map some++List.replicate (N.length - vs.length) none
def cxOf (CX:CXT) (P:Program) (w:World) (K:PySem.W.Frag) (mg:Str→Option Value) (base:Heap) (N:List Str) (qual:Str) (scope:Scope) (f:Addr) (cd:Value) (A:Around) (outer:List Env) (s:Shared) (H:Hp) (E:XK):Cx where
 prog:=P
 w:=w
 K:=K
 mg:=mg
 base:=base
 A:=A.deeper (envOfC qual scope s.heap.objs.size f cd)
 N:=N
 s₀:=s
 H₀:=H
 env:=envOfC qual scope s.heap.objs.size f cd
 outer:=outer
 stack:=envOfC qual scope s.heap.objs.size f cd::outer
 ex:=[]
 calm:=true
 fn:=fun _=>true
 pn:=[]
 xe:=fun e s'=>wpAny (model P w) (A.deeper (envOfC qual scope s.heap.objs.size f cd)) (leaving (envOfC qual scope s.heap.objs.size f cd) e) (fun _ s''=>CX outer H s E e s'') (fun e' s''=>CX outer H s E e' s'') s'
theorem cell_has {sc:Scope} {n:Nat} {x:Str} (h:sc.names.lookup x = some .cell):∃ c,(cellsFrom n sc.names []).lookup x = some c:=by
 have q:=PySem.W.cellsFrom_some sc.names n [] (.inl h)
 exact Option.isSome_iff_exists.mp q
theorem inv_start {CX:CXT} {P:Program} {w:World} {K:PySem.W.Frag} {mg:Str→Option Value} {base:Heap} {N ps:List Str} {qual:Str} {scope:Scope} {f:Addr} {cd:Value} {A:Around} {outer:List Env} {s s1:Shared} {H:Hp} {E:XK} {us:List Value} {vs:List V}
 (S:FnScope N ps scope) (hd:A.handled = none) (e0:Env0 P w K mg base A outer s H) (hl:vs.length = ps.length) (r:Vals vs us)
 (x:InCallC s s.heap.objs.size (bindL (envOfC qual scope s.heap.objs.size f cd).kindOf (ps.zip us) fun _=>none) (cellsFrom (s.heap.objs.size+1) scope.names []) (bindC (envOfC qual scope s.heap.objs.size f cd).kindOf (ps.zip us) fun _=>none) s1) :
 Inv (cxOf CX P w K mg base N qual scope f cd A outer s H E) [] (start N vs) H s1:=by
 have hpl:ps.length≤N.length:=by have:=congrArg List.length S.pre;rw [List.length_take] at this;omega
 obtain ⟨h1,tk,rfl,hk⟩:=x.done
 have noA:∀ b:Addr,b∉(cxOf CX P w K mg base N qual scope f cd A outer s H E).ex:=fun b z=>absurd (show b∈([]:List Addr) from z) (by simp)
 refine ⟨⟨e0.mod,S.kind,rfl,rfl,Nat.le_refl _,fun y z c h1 h2=>?_,fun y hy=>?_,fun y c _ h=>?_,fun _=>hd,Around.frames_deeper e0.frames,.inr ⟨rfl,rfl⟩,fun b z=>absurd z (noA b),e0.bs,e0.bsz,fun b _ _=>noA b,fun b z=>absurd z (noA b),e0.funs,e0.frf⟩,
  rfl,e0.bare,Un.kept hk,⟨_,x.toInCall.ns,fun i y v h1 h2 h3=>?_⟩,fun y c h=>⟨_,x.cell y c h⟩,e0.hok.fresh (Nat.le_refl _),fun y c h=>?_,fun p hp=>absurd (show p∈([]:List (Addr × Obj)) from hp) (by simp),e0.hok.kept hk,?_⟩
 · exact name_of_addr x.apart (PySem.mem_of_lookup h1) (PySem.mem_of_lookup h2)
 · have hy:scope.names.lookup y = some .cell∨scope.names.lookup y = some .free:=hy
   rcases hy with hy | hy
   · exact cell_has hy
   · exact absurd rfl (S.nofree _ (PySem.mem_of_lookup hy))
 · exact Nat.le_of_lt (x.above y c (PySem.mem_of_lookup h))
 · have hi:i < vs.length:=by
    unfold start at h2
    by_cases hi:i < vs.length
    · exact hi
    · rw [List.getElem?_append_right (by simpa using hi)] at h2
      rw [List.getElem?_replicate] at h2
      split at h2<;>cases h2
   have ha:vs[i]? = some v:=by
    unfold start at h2
    rw [List.getElem?_append_left (by simpa using hi),List.getElem?_map] at h2
    cases e:vs[i]? with
    | none=>rw [e] at h2;cases h2
    | some a=>rw [e] at h2;cases h2;rfl
   obtain ⟨u,hu,rv⟩:=r.get ha
   have hp:ps[i]? = some y:=by
    rw [← S.pre,List.getElem?_take_of_lt (by omega)];exact h1
   have ndP:ps.Nodup:=by rw [← S.pre];exact S.nd.sublist (List.take_sublist _ _)
   refine ⟨u,rv,?_⟩
   rcases S.par y (List.mem_of_getElem? hp) with k | k
   · exact .inl ⟨k,bindL_get ndP hp hu k⟩
   · obtain ⟨c,e⟩:=cell_has (n:=s.heap.objs.size+1) k
     refine .inr ⟨.inl k,c,e,?_⟩
     have q:=x.cell y c e
     rw [bindC_get ndP hp hu (by show scope.names.lookup y≠_;rw [k];decide)] at q
     exact q
 · exact e0.hok.fresh (Nat.le_of_lt (x.above y c (PySem.mem_of_lookup h)))
 · unfold start
   show _ = N.length
   rw [List.length_append,List.length_map,List.length_replicate]
   omega
theorem fn_of {CX:CXT} {P:Program} {w:World} {K:PySem.W.Frag} {mg:Str→Option Value} {base:Heap} {k:Nat} {f:Addr} {name qual:Str} {params:Arguments} {body:List Stmt} {scope:Scope} {dV kV doc pm cdv ct oc:Value} {an od:Option Addr}
 {osl:Array (Option Value)} {N ps:List Str} {sp:Sp} (lk:K.lookup f = some ⟨oc,od,.func (PySem.W.fnOf name qual params body scope dV kV doc pm an cdv ct),osl⟩) (hcd:PySem.W.codeIn K cdv qual = true) (S:FnScope N ps scope)
 (len:∀ vs H Q E,sp vs H Q E→vs.length = ps.length)
 (hbody:∀ (A:Around) (outer:List Env) (s:Shared) (H:Hp) (vs:List V) (Q:VK) (E:XK),Room k (A.deeper (envOfC qual scope s.heap.objs.size f cdv))→sp vs H Q E →
   ∃ t,PSs (cxOf CX P w K mg base N qual scope f cdv A outer s H E) body t∧t { nx:=fun _ H'=>Q .non H',rt:=Q } (start N vs) H) :
 FnOk P w K mg base CX (k+1) f (PySem.W.fnOf name qual params body scope dV kV doc pm an cdv ct) ps sp:=by
 refine ⟨len,fun A outer s H args us vs Q E hr e0 hb r hsp=>?_⟩
 have hl:=len _ _ _ _ hsp
 have KX:K.In s.heap:=e0.mod.kin.keeps fun b o e=>(e0.bs b o e).1
 have lim:s.heap.NoLimit:=e0.mod.nolimit.keeps fun b o e=>(e0.bs b o e).1
 have hkind:∀ y∈ps.zip us,scope.names.lookup y.1 = some .local∨(scope.names.lookup y.1 = some .cell∧((cellsFrom (s.heap.objs.size+1) scope.names []).lookup y.1).isSome = true):=fun ⟨n,v⟩ hy=>by
  rcases S.par n (List.of_mem_zip hy).1 with q | q
  · exact .inl q
  · exact .inr ⟨q,PySem.W.cellsFrom_some _ _ _ (.inl q)⟩
 refine codeAny_call_function hr.depth (KX _ _ lk) rfl S.co S.gen rfl (PySem.W.codeRec_of KX hcd) (hb _ _ _ _ ?_)
 refine wpAny_newFunctionEnv_cells S.kind hkind fun env he s1 x=>?_
 subst he
 refine ⟨lim.keeps x.toInCall.keep,codeAny_func ?_⟩
 obtain ⟨t,ht,hq⟩:=hbody A outer s H vs Q E (hr.deeper _) hsp
 have I:Inv (cxOf CX P w K mg base N qual scope f cdv A outer s H E) [] (start N vs) H s1:=inv_start S hr.hd e0 hl r x
 refine wpAny_mono (ht [] s1 (start N vs) H _ I hq) (fun fl s' hs=>?_) fun e s' hs=>hs
 have fin:∀ {σ':St} {H':Hp} {v:V} {u:Value},Inv (cxOf CX P w K mg base N qual scope f cdv A outer s H E) [] σ' H' s'→RelV v u→Q v H'→CE outer P w H s Q u s' :=
  fun {σ' H' v u} J rv q=>⟨v,H',J.os,J.bare,J.base,J.hok,rv,q⟩
 cases fl with
 | ret u =>
   obtain ⟨v,σ',H',J,rv,q⟩:=hs
   exact fin J rv q
 | next =>
   obtain ⟨σ',H',J,q⟩:=hs
   exact fin (v:=V.non) (u:=Value.none) J rfl q
 | brk =>
   obtain ⟨_,_,_,q⟩:=hs
   exact False.elim q
 | cont =>
   obtain ⟨_,_,_,q⟩:=hs
   exact False.elim q
end L2
namespace L2
open PySem PySem.Spec PyProof.Rows
section
variable {X:Cx} {x:Str} {p pos:Pos} {e:Expr} {es:List Expr} {t:TA} {id T:String} {r:List V→Hp→VK→Prop}
def tCB (r:List V→Hp→VK→Prop) (t:TA):TE:=fun σ H Q=>t σ H fun vs H1=>r vs H1 Q
theorem pe_callB (hc:CallR X (.builtin id) r) (hg:Gl X x) (hm:X.mg x = none) (hv:bootBuiltins x = some (.builtin id)) (ha:PA X (e::es) t) (hn:x≠"__name__":=by decide) (hdb:(x == ("__debug__":Str)) = false:=by decide)
 (he:starEach (e::es) X.env = (false,eval e X.env)::starEach es X.env:=by rfl) (hpl:(backTo pos (starEach es X.env)).any (·.1) = false:=by rfl):PE X (.Call (.Name x p) (e::es) [] pos) (tCB r t):=by
 intro pins s σ H Q I h
 refine wpAny_Call_Name_kw (ld_blt I hg hm hv ?_ hn hdb)
 exact PyProof.Rows.callWith_builtin1 (thn (ha pos pins s σ H _ I h) fun us s1 ⟨vs,H1,I1,r1,q1⟩=>hc pins s1 σ H1 vs us Q I1 r1 q1) he hpl
theorem pe_callTy (hc:CallR X (.type T) r) (hg:Gl X x) (hm:X.mg x = none) (hv:bootBuiltins x = some (.type T)) (ha:PA X (e::es) t) (hn:x≠"__name__":=by decide) (hdb:(x == ("__debug__":Str)) = false:=by decide)
 (he:starEach (e::es) X.env = (false,eval e X.env)::starEach es X.env:=by rfl) (hpl:(backTo pos (starEach es X.env)).any (·.1) = false:=by rfl):PE X (.Call (.Name x p) (e::es) [] pos) (tCB r t):=by
 intro pins s σ H Q I h
 refine wpAny_Call_Name_kw (ld_blt I hg hm hv ?_ hn hdb)
 exact PyProof.Rows.callWith_type1 (thn (ha pos pins s σ H _ I h) fun us s1 ⟨vs,H1,I1,r1,q1⟩=>hc pins s1 σ H1 vs us Q I1 r1 q1) he hpl
end
end L2
namespace HT
open PySem PyProof.Rows
section
open PySem.SeqAt
open PySem.AutoSeq1 (wpAny_loadPart')
open PySem.MeetsSeq PySem.MeetsSeq2 PySem.MeetsSeq3
end
section
variable {prog:Program} {w:World} {A:Around} {E:Value→Shared→Prop} {s:Shared}
theorem cat_tup {t b:Addr} {vs ws:List Value} {Q:Value→Shared→Prop} (ht:IsTup s.heap t vs.toArray) (hb:IsTup s.heap b ws.toArray) (hv:vs≠[])
 (h1:ws = []→Q (.ref t) s) (h2:ws≠[]→Q (.ref s.heap.objs.size) { s with heap:=s.heap.push { cls:=.type "tuple",data:=.seq (vs++ws).toArray } })
 (hsz:vs.length+ws.length≤sizeLine):wpAny (model prog w) A (binaryOp .Add (.ref t) (.ref b)) Q E s:=by
 obtain ⟨⟨cls,dd,data,sl⟩,ho,hc,n,hd⟩:=id ht
 obtain ⟨⟨cls2,dd2,data2,sl2⟩,ho2,hc2,n2,hd2⟩:=id hb
 simp only at hc hd hc2 hd2
 subst hc hd hc2 hd2
 have e:vs.toArray++ws.toArray = (vs++ws).toArray:=by simp
 by_cases hw:ws = []
 · exact concat_meets ⟨_,ho,rfl⟩ ⟨_,ho2,rfl⟩ noFill_tuple_add seq_tuple_add PySem.F.slot_tuple_add PySem.F.entry_tuple_add (PySem.F.args_tuple_add_2 _ _)
    (tuple_addW1 t b vs.toArray ws.toArray n n2 dd dd2 sl sl2 (by simpa using hv) (by simp [hw])) ⟨ho,ho2,h1 hw⟩
 · refine concat_meets ⟨_,ho,rfl⟩ ⟨_,ho2,rfl⟩ noFill_tuple_add seq_tuple_add PySem.F.slot_tuple_add PySem.F.entry_tuple_add (PySem.F.args_tuple_add_2 _ _)
    (tuple_addW2 t b vs.toArray ws.toArray n n2 dd dd2 sl sl2 (by simpa using hv) (by simpa using hw) (by rw [List.size_toArray,List.size_toArray];exact hsz)) ⟨ho,ho2,?_⟩
   rw [e]
   exact h2 hw
def sIx (n d:Nat):Option Int→Nat
 | none=>d
 | some v=>if v < 0 then (v+(n:Int)).toNat else min v.toNat n
theorem sIx_nat (n d k:Nat):sIx n d (some (k:Int)) = min k n:=by
 show (if (k:Int) < 0 then ((k:Int)+(n:Int)).toNat else min (k:Int).toNat n) = min k n
 rw [if_neg (by omega),Int.toNat_natCast]
theorem sIx_le (n d:Nat) (hd:d≤n) (o:Option Int):sIx n d o≤n:=by
 cases o with
 | none=>exact hd
 | some v =>
   show (if v < 0 then (v+(n:Int)).toNat else min v.toNat n)≤n
   by_cases hv:v < 0
   · rw [if_pos hv];omega
   · rw [if_neg hv];exact Nat.min_le_right _ _
theorem clip_eq (v:Int) (n d:Nat):(if v < 0 then max (v+(n:Int)) 0 else min v (n:Int)) = ((sIx n d (some v):Nat):Int):=by
 show (if v < 0 then max (v+(n:Int)) 0 else min v (n:Int)) = (((if v < 0 then (v+(n:Int)).toNat else min v.toNat n):Nat):Int)
 by_cases hv:v < 0
 · simp only [if_pos hv];omega
 · simp only [if_neg hv];omega
theorem adjust_gen (lo hi:Option Int) (n:Nat):Builtin.Slice.sliceAdjust lo hi 1 (n:Int) = (((sIx n 0 lo:Nat):Int),((sIx n n hi:Nat):Int)):=by
 have h1:¬ ((1:Int) < 0):=by omega
 unfold Builtin.Slice.sliceAdjust
 simp only [h1,if_false]
 refine Prod.ext ?_ ?_
 · cases lo with
   | none=>rfl
   | some v=>exact clip_eq v n 0
 · cases hi with
   | none=>rfl
   | some v=>exact clip_eq v n n
theorem places_gen (i j:Nat):Builtin.Slice.slicePlaces (i:Int) (j:Int) 1 = j - i:=by
 unfold Builtin.Slice.slicePlaces
 have h1:(1:Int) > 0:=by omega
 simp only [h1,if_true,Int.ediv_one]
 split<;>omega
theorem slicePart_ {v:Value} {o:Option Int} {Q:Option Int→Shared→Prop} (p:IsPart v o) (h:Q o s):wpAny (model prog w) A (Builtin.Slice.slicePartIndex v) Q E s:=by
 cases p with
 | none=>exact slicePart_none h
 | int i t=>exact slicePart_int h
theorem sliceApplied_gen {sl:Addr} {vl vu:Value} {lo hi:Option Int} {n:Nat} {Q:Int × Int × Nat→Shared→Prop} (hs:s.heap.IsSliceOf sl vl vu .none) (pl:IsPart vl lo) (pu:IsPart vu hi)
 (h:Q (((sIx n 0 lo:Nat):Int),1,sIx n n hi - sIx n 0 lo) s):wpAny (model prog w) A (Builtin.Slice.sliceApplied (.ref sl) (pure (n:Int))) Q E s:=by
 obtain ⟨os,hos,hcs,hds⟩:=id hs
 unfold Builtin.Slice.sliceApplied Builtin.Slice.sliceFields
 refine wpAny_bind (wpAny_bind (wpAny_field hos hds (x:=vl) rfl (wpAny_bind (wpAny_field hos hds (x:=vu) rfl (wpAny_bind (wpAny_field hos hds (x:=.none) rfl (wpAny_pure ?_)))))))
 refine wpAny_bind (slicePart_none ?_)
 show wpAny _ _ (if ((1:Int) == 0) = true then _ else _) _ _ s
 rw [if_neg (by decide)]
 refine wpAny_bind (slicePart_ pl (wpAny_bind (slicePart_ pu (wpAny_bind (wpAny_pure ?_)))))
 show wpAny _ _ (match Builtin.Slice.sliceAdjust lo hi 1 (n:Int) with | (lo,hi)=>pure (lo,(1:Int),Builtin.Slice.slicePlaces lo hi 1)) _ _ s
 rw [adjust_gen lo hi n]
 show wpAny _ _ (pure (((sIx n 0 lo:Nat):Int),(1:Int),Builtin.Slice.slicePlaces ((sIx n 0 lo:Nat):Int) ((sIx n n hi:Nat):Int) 1)) _ _ s
 rw [places_gen]
 exact wpAny_pure h
theorem pick_gen (xs:Array Value) (i k:Nat):((List.range k).filterMap fun (m:Nat)=>xs[((i:Int)+(m:Int) * 1).toNat]?).toArray = ((xs.toList.drop i).take k).toArray:=by
 have e:(fun (m:Nat)=>xs[((i:Int)+(m:Int) * 1).toNat]?) = fun m=>xs[i+m]? := by
  funext m
  have:((i:Int)+(m:Int) * 1).toNat = i+m:=by omega
  rw [this]
 rw [e]
 have:=pick_run xs i k
 rw [List.filterMap_map] at this
 have e2:((fun x=>xs[x]?) ∘ fun x=>i+x) = fun m=>xs[i+m]? := rfl
 rw [e2] at this
 rw [this]
theorem getItem_tuple_cut {t sl:Addr} {items:Array Value} {vl vu:Value} {lo hi:Option Int} {Q:Value→Shared→Prop} (ht:IsTup s.heap t items) (hs:s.heap.IsSliceOf sl vl vu .none) (pl:IsPart vl lo) (pu:IsPart vu hi)
 (hw:¬ (sIx items.size 0 lo = 0∧sIx items.size items.size hi = items.size))
 (h:Q (.ref s.heap.objs.size) { s with heap:=s.heap.push { cls:=.type "tuple",data:=.seq ((items.toList.drop (sIx items.size 0 lo)).take (sIx items.size items.size hi - sIx items.size 0 lo)).toArray } })
 (hsz:items.size≤sizeLine):wpAny (model prog w) A (getItem (.ref t) (.ref sl)) Q E s:=by
 have htake:sizeOk (.seq ((items.toList.drop (sIx items.size 0 lo)).take (sIx items.size items.size hi - sIx items.size 0 lo)).toArray):=by
  show ((items.toList.drop (sIx items.size 0 lo)).take (sIx items.size items.size hi - sIx items.size 0 lo)).toArray.size≤sizeLine
  rw [List.size_toArray,List.length_take,List.length_drop,Array.length_toList]
  omega
 have hj:sIx items.size items.size hi≤items.size:=sIx_le _ _ (Nat.le_refl _) hi
 obtain ⟨os,hos,hcs,hds⟩:=id hs
 have hTs:s.TypeIs (.ref sl) "slice":=⟨os,hos,hcs⟩
 unfold getItem
 try with_reducible refine wpAny_holding ?_
 first | refine wpAny_bind (wpAny_pure ?_) | skip
 refine wpAny_bind (wpAny_sequenceKey ht.typeIs (by decide) ?_)
 refine wpAny_bind (wpAny_callSpecial?_slot (name:=Str.ofString "__getitem__") ht.typeIs PyProof.Rows.slot_tuple_getitem
  (wpAny_call_entry PyProof.Rows.slot_tuple_getitem ht.typeIs entry_tuple_getitem ?_ (args_tuple_getitem _ _)))
 show wpAny _ _ (Builtin.Tuple.tupleItemsOf (.ref t) >>= _) _ _ s
 refine wpAny_bind (tupleItemsOf_ ht ?_)
 refine wpAny_bind (wpAny_typeOf hTs ?_)
 rw [if_pos (by decide)]
 refine wpAny_bind (sliceApplied_gen hs pl pu ?_)
 have hno:¬ ((((sIx items.size 0 lo:Nat):Int) == 0 && (1:Int) == 1 && (sIx items.size items.size hi - sIx items.size 0 lo) == items.size) = true):=by
  intro q
  rw [Bool.and_eq_true,Bool.and_eq_true] at q
  have q1:((sIx items.size 0 lo:Nat):Int) = 0:=eq_of_beq q.1.1
  have q2:sIx items.size items.size hi - sIx items.size 0 lo = items.size:=eq_of_beq q.2
  exact hw ⟨by omega,by omega⟩
 show wpAny _ _ (if (((sIx items.size 0 lo:Nat):Int) == 0 && (1:Int) == 1 && (sIx items.size items.size hi - sIx items.size 0 lo) == items.size) = true then _ else _) _ _ s
 rw [if_neg hno,pick_gen]
 first
  | exact wpAny_bind (m:=Builtin.Tuple.tupleExact _) (wpAny_newObj_type (wpAny_pure ⟨_,rfl,wpAny_pure h⟩) htake)
  | exact wpAny_bind (m:=Builtin.Tuple.tupleExact _) (wpAny_newObj_type (wpAny_bind (wpAny_pure (wpAny_pure ⟨_,rfl,wpAny_pure h⟩))) htake)
  | exact wpAny_bind (wpAny_bind (m:=Builtin.Tuple.tupleExact _) (wpAny_newObj_type (wpAny_pure (wpAny_pure ⟨_,rfl,wpAny_pure h⟩)) htake))
  | exact wpAny_bind (wpAny_bind (m:=Builtin.Tuple.tupleExact _) (wpAny_newObj_type (wpAny_pure ⟨_,rfl,wpAny_pure h⟩) htake))
end
end HT
namespace L2
open PySem PySem.Spec PyProof.Rows
abbrev TO:=St→Hp→(Option Int→Hp→Prop)→Prop
def PO (X:Cx) (e:Option Expr) (t:TO):Prop :=
 ∀ (pins:List (Addr × Obj)) (s:Shared) (σ:St) (H:Hp) (Q:Option Int→Hp→Prop),Inv X pins σ H s→t σ H Q →
  wpAny (model X.prog X.w) X.A (evalPart e X.env) (fun u s'=>∃ o H',Inv X pins σ H' s'∧IsPart u o∧Q o H') X.xe s
def tNoPart:TO:=fun _ H Q=>Q none H
def tPart (t:TE):TO:=fun σ H Q=>t σ H fun x H1=>∃ i,x = .int i∧Q (some i) H1
section
variable {X:Cx} {e:Expr} {te:TE} {lo hi:Option Expr} {tl th:TO} {pos p2:Pos}
theorem po_none:PO X none tNoPart:=by
 intro pins s σ H Q I h
 rw [evalPart_none]
 exact wpAny_pure ⟨none,H,I,.none,h⟩
theorem po_some (h:PE X e te):PO X (some e) (tPart te):=by
 intro pins s σ H Q I hw
 rw [evalPart_some]
 refine thn (h pins s σ H _ I hw) fun u s1 ⟨x,H1,I1,r1,q1⟩=>?_
 obtain ⟨i,rfl,q⟩:=q1
 obtain ⟨t,rfl⟩:=r1
 exact ⟨some i,H1,I1,.int i t,q⟩
def SlR (X:Cx) (r:V→Option Int→Option Int→Hp→VK→Prop):Prop :=
 ∀ (pins:List (Addr × Obj)) (s:Shared) (σ:St) (H:Hp) (x:V) (v vl vu:Value) (lo hi:Option Int) (sl:Addr) (Q:VK),Inv X pins σ H s→RelV x v→s.heap.IsSliceOf sl vl vu .none→IsPart vl lo→IsPart vu hi→r x lo hi H Q →
  ∃ T id,typeLookup (.type T) "__getitem__" = pure (some (.builtin id))∧s.TypeIs v T∧wpAny (model X.prog X.w) X.A (getItem v (.ref sl)) (EP X pins σ Q) X.xe s
theorem SlR.or {r r':V→Option Int→Option Int→Hp→VK→Prop} (h:SlR X r) (h':SlR X r'):SlR X (fun x lo hi H Q=>r x lo hi H Q∨r' x lo hi H Q):=by
 intro pins s σ H x v vl vu lo hi sl Q I rx hs pl pu q
 rcases q with q | q
 · exact h pins s σ H x v vl vu lo hi sl Q I rx hs pl pu q
 · exact h' pins s σ H x v vl vu lo hi sl Q I rx hs pl pu q
def tSl (r:V→Option Int→Option Int→Hp→VK→Prop) (te:TE) (tl th:TO):TE:=fun σ H Q=>te σ H fun x H1=>tl σ H1 fun l H2=>th σ H2 fun u H3=>r x l u H3 Q
theorem pe_slice {r:V→Option Int→Option Int→Hp→VK→Prop} (hr:SlR X r) (he:PE X e te) (hl:PO X lo tl) (hu:PO X hi th):PE X (.Subscript e (.Slice lo hi none p2) pos) (tSl r te tl th):=by
 intro pins s σ H Q I h
 refine Subscript_ (thn (he pins s σ H _ I h) fun v s1 ⟨x,H1,I1,r1,q1⟩=>?_)
 refine wpAny_Slice (thn (hl pins s1 σ H1 _ I1 q1) fun vl s2 ⟨l,H2,I2,pl,q2⟩=>thn (hu pins s2 σ H2 _ I2 q2) fun vu s3 ⟨u,H3,I3,pu,q3⟩=>?_)
 rw [evalPart_none]
 refine wpAny_pure ?_
 have I4:Inv X pins σ H3 { s3 with heap:=s3.heap.push { cls:=.type "slice",data:=.fields #[vl,vu,.none] } }:=I3.kept (t':=s3.toks) fun b ob q=>Heap.get?_push_of_some _ q
 obtain ⟨T,id,hT,ht,hg⟩:=hr pins { s3 with heap:=s3.heap.push { cls:=.type "slice",data:=.fields #[vl,vu,.none] } } σ H3 x v vl vu l u s3.heap.objs.size Q I4 r1 (Heap.IsSliceOf.new ..) pl pu q3
 show wpAny (model X.prog X.w) X.A (subscriptTail e (.Slice lo hi none p2) v (.ref s3.heap.objs.size)) (EP X pins σ Q) X.xe { s3 with heap:=s3.heap.push { cls:=.type "slice",data:=.fields #[vl,vu,.none] } }
 exact tail_any (ops:=[.ref s3.heap.objs.size,v]) ht hT hg (by with_unfolding_all rfl)
def cutV (xs:List V) (lo hi:Option Int):List V:=(xs.drop (HT.sIx xs.length 0 lo)).take (HT.sIx xs.length xs.length hi - HT.sIx xs.length 0 lo)
theorem cutV_length (xs:List V) (lo hi:Option Int):(cutV xs lo hi).length≤xs.length:=by
 unfold cutV
 rw [List.length_take,List.length_drop]
 omega
def rSlT (K:PySem.W.Frag):V→Option Int→Option Int→Hp→VK→Prop:=fun x lo hi H Q=>∃ a xs,x = .ref a∧SqT K H a xs ∧
 ¬ (HT.sIx xs.length 0 lo = 0∧HT.sIx xs.length xs.length hi = xs.length)∧∀ p,H p = none→Q (.ref p) (upd H p (.tup (cutV xs lo hi)))
theorem sl_tup:SlR X (rSlT X.K):=by
 intro pins s σ H x v vl vu lo hi sl Q I rx hs pl pu h
 obtain ⟨a,xs,rfl,hx,hw,q⟩:=h
 cases rx
 obtain ⟨its,r,ht,hz⟩:=I.tuple hx
 have hlen:its.toArray.size = xs.length:=by rw [List.size_toArray];exact r.length.symm
 refine ⟨"tuple",_,PyProof.Rows.slot_tuple_getitem.lookup,ht.typeIs,?_⟩
 refine HT.getItem_tuple_cut ht hs pl pu (by rw [hlen];exact hw) ?_ (by rw [hlen];exact hz)
 rw [hlen]
 refine ⟨.ref s.heap.objs.size,_,I.laid (t':=s.toks) (o:=.tup (cutV xs lo hi)) (fun b ob q=>Heap.get?_push_of_some _ q) (Nat.le_refl _) ?_,rfl,q _ (I.hok.fresh (Nat.le_refl _))⟩
 exact ⟨Nat.le_trans (cutV_length xs lo hi) hz,_,(r.drop (HT.sIx xs.length 0 lo)).take (HT.sIx xs.length xs.length hi - HT.sIx xs.length 0 lo),IsTup.new _ _⟩
def rCatT (K:PySem.W.Frag):R2:=fun x y H Q=>∃ a b xs ys,x = .ref a∧y = .ref b∧SqT K H a xs∧SqT K H b ys∧xs≠[]∧xs.length+ys.length≤sizeLine ∧
 (ys = []→Q (.ref a) H)∧(ys≠[]→∀ p,H p = none→Q (.ref p) (upd H p (.tup (xs++ys))))
theorem Vals.nil_iff {xs:List V} {us:List Value} (r:Vals xs us):us = []↔xs = []:=by
 cases r with
 | nil=>simp
 | cons _ _=>simp
theorem op_catT:OpR X (binaryOp .Add) (rCatT X.K):=by
 intro pins s σ H x y v u Q I rx ry h
 obtain ⟨a,b,xs,ys,rfl,rfl,ha,hb,hx,hz,q1,q2⟩:=h
 cases rx
 cases ry
 obtain ⟨its,r1,p1,_⟩:=I.tuple ha
 obtain ⟨its2,r2,p2,_⟩:=I.tuple hb
 refine HT.cat_tup p1 p2 (fun z=>hx (r1.nil_iff.mp z)) (fun z=>⟨.ref a,H,I,rfl,q1 (r2.nil_iff.mp z)⟩) (fun z=>?_) (by rw [← r1.length,← r2.length];exact hz)
 refine ⟨.ref s.heap.objs.size,_,I.laid (t':=s.toks) (o:=.tup (xs++ys)) (fun b ob q=>Heap.get?_push_of_some _ q) (Nat.le_refl _) ?_,rfl,q2 (fun w=>z (r2.nil_iff.mpr w)) _ (I.hok.fresh (Nat.le_refl _))⟩
 exact ⟨by rw [List.length_append];exact hz,_,r1.append r2,IsTup.new _ _⟩
end
end L2
namespace L2
open PySem PySem.Spec PyProof.Rows
def ixN (n:Nat) (i:Int):Option Nat:=if 0≤i then (if i < n then some i.toNat else none) else if -(n:Int)≤i then some (i+n).toNat else none
def atI {α:Type} (xs:List α) (i:Int):Option α:=(ixN xs.length i).bind fun j=>xs[j]?
theorem ixN_seq {n:Nat} {i:Int} {j:Nat} (h:ixN n i = some j):seqIndex? i n = some j∧j < n∧-(n:Int)≤i∧i < n:=by
 unfold ixN at h
 by_cases h0:0≤i
 · rw [if_pos h0] at h
   by_cases h1:i < n
   · rw [if_pos h1] at h
     have e:i.toNat = j:=Option.some.inj h
     exact ⟨by rw [seqIndex_of h0 h1,e],by omega,by omega,h1⟩
   · rw [if_neg h1] at h;cases h
 · rw [if_neg h0] at h
   by_cases h1:-(n:Int)≤i
   · rw [if_pos h1] at h
     have e:(i+n).toNat = j:=Option.some.inj h
     exact ⟨by rw [seqIndex_neg (by omega) h1,e],by omega,h1,by omega⟩
   · rw [if_neg h1] at h;cases h
theorem atI_get {α:Type} {xs:List α} {i:Int} {v:α} (h:atI xs i = some v):∃ j,seqIndex? i xs.length = some j∧xs[j]? = some v∧j < xs.length∧-(xs.length:Int)≤i∧i < xs.length:=by
 unfold atI at h
 cases e:ixN xs.length i with
 | none=>rw [e] at h;cases h
 | some j =>
   rw [e] at h
   obtain ⟨h1,h2,h3,h4⟩:=ixN_seq e
   exact ⟨j,h1,h,h2,h3,h4⟩
theorem atI_nat {α:Type} {xs:List α} {j:Nat} {v:α} (h:xs[j]? = some v):atI xs (j:Int) = some v:=by
 have hj:j < xs.length:=(List.getElem?_eq_some_iff.mp h).1
 have e:ixN xs.length (j:Int) = some j:=by
  unfold ixN
  rw [if_pos (by omega),if_pos (by omega)];simp
 unfold atI;rw [e];exact h
def PlainIx (b:Expr):Prop:=∀ o i,subscripted b false o i = operate [o,i] (getItem o i)
def IxR (X:Cx) (r:R2):Prop :=
 ∀ (value slice:Expr) (pins:List (Addr × Obj)) (s:Shared) (σ:St) (H:Hp) (x y:V) (v u:Value) (Q:VK),Inv X pins σ H s→RelV x v→RelV y u→r x y H Q →
  subscripted slice false v u = operate [v,u] (getItem v u)→wpAny (model X.prog X.w) X.A (subscriptTail value slice v u) (EP X pins σ Q) X.xe s
def MtR (X:Cx) (id:String) (r:V→List V→Hp→VK→Prop):Prop :=
 ∀ (pins:List (Addr × Obj)) (s:Shared) (σ:St) (H:Hp) (x:V) (xs:List V) (v:Value) (us:List Value) (Q:VK),Inv X pins σ H s→RelV x v→Vals xs us→r x xs H Q →
  wpAny (model X.prog X.w) X.A (call (.builtin id) (v::us)) (EP X pins σ Q) X.xe s
section
variable {X:Cx} {a b:Expr} {ta tb:TE} {pos:Pos}
theorem IxR.or {r r':R2} (h:IxR X r) (h':IxR X r'):IxR X (fun x y H Q=>r x y H Q∨r' x y H Q):=by
 intro value slice pins s σ H x y v u Q I rx ry q hs
 rcases q with q | q
 · exact h value slice pins s σ H x y v u Q I rx ry q hs
 · exact h' value slice pins s σ H x y v u Q I rx ry q hs
theorem pe_ix {r:R2} (hr:IxR X r) (ha:PE X a ta) (hb:PE X b tb) (hs:PlainIx b):PE X (.Subscript a b pos) (tOp r ta tb):=by
 intro pins s σ H Q I h
 exact Subscript_ (binT ha hb I h fun v u s2 x y H2 I2 rx ry q=>hr a b pins s2 σ H2 x y v u Q I2 rx ry q (hs _ _))
def rIxL (K:PySem.W.Frag):R2:=fun x y H Q=>∃ p xs i v,x = .ref p∧y = .int i∧SqL K H p xs∧atI xs i = some v∧Q v H
def rIxT (K:PySem.W.Frag):R2:=fun x y H Q=>∃ p xs i v,x = .ref p∧y = .int i∧SqT K H p xs∧atI xs i = some v∧Q v H
def rIxS:R2:=fun x y H Q=>∃ z i c,x = .str z∧y = .int i∧z.length≤sizeLine∧atI z.cps.toList i = some c∧Q (.str ⟨#[c]⟩) H
theorem ix_list:IxR X (rIxL X.K):=by
 intro value slice pins s σ H x y v u Q I rx ry h hs
 obtain ⟨p,xs,i,z,rfl,rfl,hq,he,q⟩:=h
 cases rx
 obtain ⟨t,rfl⟩:=ry
 obtain ⟨its,r,pl,hz⟩:=I.list hq
 obtain ⟨j,h1,h2,h3,h4,h5⟩:=atI_get he
 obtain ⟨w,ew,rw'⟩:=r.get h2
 have hl:=r.length
 have hn:=line63
 have fin:EP X pins σ Q w s:=⟨z,H,I,rw',q⟩
 by_cases h0:0≤i
 · have hj:i.toNat = j:=by
    rw [seqIndex_of h0 h5] at h1
    exact Option.some.inj h1
   exact item_listR pl.isList h0 (by omega) (by rw [hj];simpa using ew) fin hs
 · have hj:(i+(its.toArray.size:Int)).toNat = j:=by
    rw [seqIndex_neg (by omega) h4] at h1
    rw [List.size_toArray,← hl]
    exact Option.some.inj h1
   exact subscriptTail_builtinR (x:=w) pl.isList.typeIs slot_list_getitem.lookup
    (wpAny_getItem_list_neg (Q:=fun r s'=>r = w∧EP X pins σ Q r s') pl.isList (by omega) (by rw [List.size_toArray]<;>omega) (by omega) (by rw [hj];simpa using ew) ⟨rfl,fin⟩) hs
theorem ix_tup:IxR X (rIxT X.K):=by
 intro value slice pins s σ H x y v u Q I rx ry h hs
 obtain ⟨p,xs,i,z,rfl,rfl,hq,he,q⟩:=h
 cases rx
 obtain ⟨t,rfl⟩:=ry
 obtain ⟨its,r,pl,hz⟩:=I.tuple hq
 obtain ⟨j,h1,h2,h3,h4,h5⟩:=atI_get he
 obtain ⟨w,ew,rw'⟩:=r.get h2
 have hl:=r.length
 have hn:=line63
 have fin:EP X pins σ Q w s:=⟨z,H,I,rw',q⟩
 exact subscriptTail_builtinR (x:=w) pl.typeIs slot_tuple_getitem.lookup
  (getItem_tuple (j:=j) (Q:=fun r s'=>r = w∧EP X pins σ Q r s') pl (by omega) (by omega) (by rw [List.size_toArray,← hl];exact h1) (by simpa using ew) ⟨rfl,fin⟩) hs
theorem ix_str:IxR X rIxS:=by
 intro value slice pins s σ H x y v u Q I rx ry h hs
 obtain ⟨z,i,c,rfl,rfl,hz,he,q⟩:=h
 obtain ⟨t,rfl⟩:=rx
 obtain ⟨t',rfl⟩:=ry
 obtain ⟨j,h1,h2,h3,h4,h5⟩:=atI_get he
 have hl:z.cps.toList.length = z.length:=by simp [Str.length]
 rw [hl] at h1 h4 h5
 have hn:=line63
 exact tail_any (typeIs_str s z t) slot_str_getitem.lookup (getItem_str (c:=c) (by
  have e1:decide (i < -(2 ^ 63:Int)) = false:=decide_eq_false (by omega)
  have e2:decide (i ≥ 2 ^ 63) = false:=decide_eq_false (by omega)
  rw [e1,e2,Bool.or_false]) (by rw [h1];simpa using h2) ⟨.str ⟨#[c]⟩,H,I.tok _,⟨_,rfl⟩,q⟩) hs
def rIx (K:PySem.W.Frag):R2:=fun x y H Q=>rIxL K x y H Q∨rIxT K x y H Q∨rIxS x y H Q
theorem ix_seq:IxR X (rIx X.K):=ix_list.or (ix_tup.or ix_str)
theorem mapSeq_set (its:List Value) (n j:Nat) (u:Value):Obj.mapSeq (·.setIfInBounds j u) { cls:=.type "list",data:=.seq its.toArray n } = { cls:=.type "list",data:=.seq (its.set j u).toArray n }:=by
 simp [Obj.mapSeq]
theorem Inv.lst {pins:List (Addr × Obj)} {σ:St} {H:Hp} {s:Shared} {p:Addr} {xs:List V} (I:Inv X pins σ H s) (h:H p = some (.lst xs)) :
 ∃ (its:List Value) (n:Nat),Vals xs its∧s.heap.get? p = some { cls:=.type "list",data:=.seq its.toArray n }∧xs.length≤sizeLine:=by
 obtain ⟨z,its,n,r,e⟩:=I.hok p _ h
 exact ⟨its,n,r,e,z⟩
theorem Inv.lstUpd {pins:List (Addr × Obj)} {σ:St} {H:Hp} {s:Shared} {p:Addr} {xs ys:List V} {its its':List Value} {n n':Nat} {f:Obj→Obj} (I:Inv X pins σ H s) (h:H p = some (.lst xs))
 (ho:s.heap.get? p = some { cls:=.type "list",data:=.seq its.toArray n }) (hf:f { cls:=.type "list",data:=.seq its.toArray n } = { cls:=.type "list",data:=.seq its'.toArray n' }) (r:Vals ys its') (hz:ys.length≤sizeLine) (t:Nat) :
 Inv X pins σ (upd H p (.lst ys)) { s with heap:=s.heap.update p f,toks:=t }:=by
 have e:(s.heap.update p f).get? p = some { cls:=.type "list",data:=.seq its'.toArray n' }:=by
  rw [Heap.get?_update_self f ho (by rw [hf]<;>rfl),hf]
 refine I.write (x:=p) (e:=p) (by rw [h];trivial) (.inl rfl) (fun b u hb q=>(Heap.get?_update_other _ _ (Ne.symm hb)).trans q) ⟨_,e⟩ ?_
 exact ⟨hz,its',n',r,e⟩
def rSetL:V→V→V→Hp→(Hp→Prop)→Prop:=fun o i v H Q=>∃ p xs k j,o = .ref p∧i = .int k∧H p = some (.lst xs)∧ixN xs.length k = some j∧Q (upd H p (.lst (xs.set j v)))
theorem set_list:PSet X rSetL:=by
 intro pins s σ H o i v ov iv u Q I ro ri rv h
 obtain ⟨p,xs,k,j,rfl,rfl,hp,hj,q⟩:=h
 cases ro
 obtain ⟨t,rfl⟩:=ri
 obtain ⟨its,n,r,ho,hz⟩:=I.lst hp
 obtain ⟨h1,h2,h3,h4⟩:=ixN_seq hj
 have hl:=r.length
 have hn:=line63
 have I':Inv X pins σ (upd H p (.lst (xs.set j v))) { s with heap:=s.heap.update p (Obj.mapSeq (·.setIfInBounds j u)) } :=
  I.lstUpd hp ho (mapSeq_set its n j u) (r.set rv j) (by rw [List.length_set];exact hz) s.toks
 by_cases h0:0≤k
 · have hk:k.toNat = j:=by
    rw [seqIndex_of h0 h4] at h1
    exact Option.some.inj h1
   exact PySem.W.ki_setAt ho h0 (by omega) (by rw [List.size_toArray,← hl];exact h4) (by rw [hk];exact ⟨_,I',q⟩)
 · have hk:(k+(its.toArray.size:Int)).toNat = j:=by
    rw [seqIndex_neg (by omega) h3] at h1
    rw [List.size_toArray,← hl]
    exact Option.some.inj h1
   exact PySem.W.ki_setBack ho (by omega) (by rw [List.size_toArray,← hl];exact h3) (by omega) (by rw [hk];exact ⟨_,I',q⟩)
theorem slice_bounds (lo hi:Option Int) (n:Nat):(sliceBounds lo hi none n).1 = ((HT.sIx n 0 lo:Nat):Int)∧(sliceBounds lo hi none n).2.1 = ((HT.sIx n n hi:Nat):Int)∧(sliceBounds lo hi none n).2.2 = 1:=by
 refine ⟨?_,?_,rfl⟩
 · cases lo with
   | none=>simp [sliceBounds,HT.sIx]
   | some i =>
     simp only [sliceBounds,HT.sIx,Option.getD_none,show (1:Int) > 0 by decide,if_true]
     by_cases h:i < 0
     · simp only [h,if_true]<;>omega
     · simp only [h,if_false]<;>omega
 · cases hi with
   | none=>simp [sliceBounds,HT.sIx]
   | some i =>
     simp only [sliceBounds,HT.sIx,Option.getD_none,show (1:Int) > 0 by decide,if_true]
     by_cases h:i < 0
     · simp only [h,if_true]<;>omega
     · simp only [h,if_false]<;>omega
theorem slicePick_cut (its:List Value) (lo hi:Option Int):slicePick its.toArray lo hi none = ((its.drop (HT.sIx its.length 0 lo)).take (HT.sIx its.length its.length hi - HT.sIx its.length 0 lo)).toArray:=by
 obtain ⟨h1,h2,h3⟩:=slice_bounds lo hi its.toArray.size
 unfold slicePick
 rw [h1,h2,h3]
 simp only [sliceRange_one,pick_run,List.size_toArray]<;>rfl
def rSlL (K:PySem.W.Frag):V→Option Int→Option Int→Hp→VK→Prop:=fun x lo hi H Q=>∃ a xs,x = .ref a∧SqL K H a xs∧∀ p,H p = none→Q (.ref p) (upd H p (.lst (cutV xs lo hi)))
theorem sl_list:SlR X (rSlL X.K):=by
 intro pins s σ H x v vl vu lo hi sl Q I rx hs pl pu h
 obtain ⟨a,xs,rfl,hx,q⟩:=h
 cases rx
 obtain ⟨its,r,ht,hz⟩:=I.list hx
 have hlen:=r.length
 refine ⟨"list",_,slot_list_getitem.lookup,ht.isList.typeIs,?_⟩
 refine wpAny_getItem_list_slice ht.isList hs pl pu .none (by simp) ?_ (by rw [List.size_toArray]<;>omega)
 rw [slicePick_cut,← hlen]
 refine ⟨.ref s.heap.objs.size,_,I.laid (t':=s.toks) (o:=.lst (cutV xs lo hi)) (fun b ob q=>Heap.get?_push_of_some _ q) (Nat.le_refl _) ?_,rfl,q _ (I.hok.fresh (Nat.le_refl _))⟩
 exact ⟨Nat.le_trans (cutV_length xs lo hi) hz,_,0,(r.drop (HT.sIx xs.length 0 lo)).take (HT.sIx xs.length xs.length hi - HT.sIx xs.length 0 lo),Heap.get?_push_size _ rfl⟩
theorem call_len_seq:CallR X (.builtin "len") (fun xs H Q=>∃ p ys,xs = [.ref p]∧(SqL X.K H p ys∨SqT X.K H p ys)∧Q (.int ys.length) H):=by
 intro pins s σ H xs us Q I r h
 obtain ⟨p,ys,rfl,hq,q⟩:=h
 obtain ⟨u,rfl,rx⟩:=vals1 r
 cases rx
 have hn:=line63
 rcases hq with hq | hq
 · obtain ⟨its,r',pl,hz⟩:=I.list hq
   have hlen:=r'.length
   exact Calls.call_len_list pl.isList (by simp only [List.size_toArray]<;>omega) ⟨.int ys.length,H,I.tok _,⟨s.toks+1,by rw [List.size_toArray,hlen]⟩,q⟩
 · obtain ⟨its,r',pl,hz⟩:=I.tuple hq
   have hlen:=r'.length
   exact len_tuple pl (by simp only [List.size_toArray]<;>omega) ⟨.int ys.length,H,I.tok _,⟨s.toks+1,by rw [List.size_toArray,hlen]⟩,q⟩
theorem call_len_str:CallR X (.builtin "len") (fun xs H Q=>∃ z,xs = [.str z]∧z.length≤sizeLine∧Q (.int z.length) H):=by
 intro pins s σ H xs us Q I r h
 obtain ⟨z,rfl,hz,q⟩:=h
 obtain ⟨u,rfl,t,rfl⟩:=vals1 r
 have hn:=line63
 exact len_str (by omega) ⟨.int z.length,H,I.tok _,⟨_,rfl⟩,q⟩
theorem CallR.or {f:Value} {r r':List V→Hp→VK→Prop} (h:CallR X f r) (h':CallR X f r'):CallR X f (fun xs H Q=>r xs H Q∨r' xs H Q):=by
 intro pins s σ H xs us Q I rs q
 rcases q with q | q
 · exact h pins s σ H xs us Q I rs q
 · exact h' pins s σ H xs us Q I rs q
theorem call_list_of:CallR X (.type "list") (fun xs H Q=>∃ p ys,xs = [.ref p]∧(SqL X.K H p ys∨SqT X.K H p ys)∧∀ l,H l = none→Q (.ref l) (upd H l (.lst ys))):=by
 intro pins s σ H xs us Q I r h
 obtain ⟨p,ys,rfl,hq,q⟩:=h
 obtain ⟨u,rfl,rx⟩:=vals1 r
 cases rx
 have fin:∀ (its:List Value),Vals ys its→ys.length≤sizeLine→∀ (h':Heap) (c':Nat),(∀ b o',s.heap.get? b = some o'→h'.get? b = some o') →
  h'.get? s.heap.objs.size = some { cls:=.type "list",dict:=none,data:=.seq its.toArray c',slots := #[] }→EP X pins σ Q (.ref s.heap.objs.size) { s with heap:=h' }:=fun its r' hz h' c' kp e =>
  ⟨.ref s.heap.objs.size,_,I.laid (t':=s.toks) kp (Nat.le_refl _) (show ObjOk X.prog X.w _ h' _ (.lst ys) from ⟨hz,its,c',r',e⟩),rfl,q _ (I.hok.fresh (Nat.le_refl _))⟩
 rcases hq with hq | hq
 · obtain ⟨its,r',pl,hz⟩:=I.list hq
   have hlen:=r'.length
   obtain ⟨o,ho,hc,n,hd⟩:=pl.isList
   exact call_list_seq p (.inl rfl) ho hc hd (fun h' c' kp e=>fin its r' hz h' c' kp e) (by simp only [List.size_toArray]<;>omega)
 · obtain ⟨its,r',pl,hz⟩:=I.tuple hq
   have hlen:=r'.length
   obtain ⟨o,ho,hc,n,hd⟩:=pl
   exact call_list_seq p (.inr rfl) ho hc hd (fun h' c' kp e=>fin its r' hz h' c' kp e) (by simp only [List.size_toArray]<;>omega)
theorem call_tuple_of:CallR X (.type "tuple") (fun xs H Q=>∃ p ys,xs = [.ref p]∧((SqL X.K H p ys∧∀ l,H l = none→Q (.ref l) (upd H l (.tup ys)))∨(SqT X.K H p ys∧Q (.ref p) H))):=by
 intro pins s σ H xs us Q I r h
 obtain ⟨p,ys,rfl,h⟩:=h
 obtain ⟨u,rfl,rx⟩:=vals1 r
 cases rx
 rcases h with ⟨hq,q⟩ | ⟨hq,q⟩
 · obtain ⟨its,r',pl,hz⟩:=I.list hq
   have hlen:=r'.length
   refine call_tuple_list pl.isList (fun h' kp=>?_) (by simp only [List.size_toArray]<;>omega)
   have I1:Inv X pins σ H { s with heap:=h' }:=I.kept (t':=s.toks) kp
   have I2:Inv X pins σ (upd H h'.objs.size (.tup ys)) { s with heap:=h'.push { cls:=.type "tuple",data:=.seq its.toArray } } :=
    I1.laid (t':=s.toks) (fun b o e=>Heap.get?_push_of_some _ e) (Nat.le_refl _) (show ObjOk X.prog X.w _ _ _ (.tup ys) from ⟨hz,its,r',IsTup.new _ _⟩)
   exact ⟨.ref h'.objs.size,_,I2,rfl,q _ (I1.hok.fresh (Nat.le_refl _))⟩
 · obtain ⟨its,r',pl,hz⟩:=I.tuple hq
   exact call_tuple_same pl ⟨.ref p,H,I,rfl,q⟩
def tyV (K:PySem.W.Frag) (T:String) (x:V) (H:Hp):Prop:=match x with
 | .str _=>T = "str"
 | .int _=>T = "int"
 | .ref p=>(T = "list"∧∃ xs,SqL K H p xs)∨(T = "tuple"∧∃ o,K.lookup p = some o∧o.cls = .type "tuple"∧o.dict = none) ∨
    (T = "dict"∧((∃ kvs,H p = some (.dK kvs))∨∃ kvs,H p = some (.dT kvs)))∨(T = "set"∧∃ S n,H p = some (.set S n))
 | _=>False
theorem tyV_is {pins:List (Addr × Obj)} {σ:St} {H:Hp} {s:Shared} {T:String} {x:V} {v:Value} (I:Inv X pins σ H s) (r:RelV x v) (ty:tyV X.K T x H) :
 s.TypeIs v T∧∀ a,v = .ref a→∃ ob,s.heap.get? a = some ob∧ob.dict = none:=by
 cases x with
 | str z =>
   obtain ⟨t,rfl⟩:=r
   cases (show T = "str" from ty)
   exact ⟨typeIs_str s z t,fun _ e=>nomatch e⟩
 | int i =>
   obtain ⟨t,rfl⟩:=r
   cases (show T = "int" from ty)
   exact ⟨typeIs_int s i t,fun _ e=>nomatch e⟩
 | ref p =>
   cases r
   rcases ty with ⟨rfl,xs,hq⟩ | ⟨rfl,o,hk,hc,hd⟩ | ⟨rfl,hk⟩ | ⟨rfl,S,n,hk⟩
   · obtain ⟨its,_,pl,_⟩:=I.list hq
     refine ⟨pl.isList.typeIs,fun a e=>?_⟩
     cases e
     obtain ⟨o,n,e,c,hd,_⟩:=pl
     exact ⟨o,e,hd⟩
   · refine ⟨⟨o,I.kIn p o hk,hc⟩,fun a e=>?_⟩
     cases e
     exact ⟨o,I.kIn _ o hk,hd⟩
   · have z:∃ o,s.heap.get? p = some o∧o.ExactDict:=by
      rcases hk with ⟨kvs,hk⟩ | ⟨kvs,hk⟩
      · obtain ⟨_,_,_,_,o,_,_,e,ex,_⟩:=I.hok p _ hk
        exact ⟨o,e,ex⟩
      · obtain ⟨_,_,_,_,o,_,_,e,ex,_⟩:=I.hok p _ hk
        exact ⟨o,e,ex⟩
     obtain ⟨o,e,ex⟩:=z
     refine ⟨⟨o,e,ex.1⟩,fun a e2=>?_⟩
     cases e2
     exact ⟨o,e,ex.2.1⟩
   · obtain ⟨o,_,_,_,e,ex,_⟩:=I.hok p _ hk
     refine ⟨⟨o,e,ex.1⟩,fun a e2=>?_⟩
     cases e2
     exact ⟨o,e,ex.2.1⟩
 | _=>exact False.elim ty
def tBM0 (K:PySem.W.Frag) (T:String) (r:V→List V→Hp→VK→Prop) (to:TE):TE:=fun σ H Q=>to σ H fun x H1=>tyV K T x H1∧r x [] H1 Q
def tBM (K:PySem.W.Frag) (T:String) (r:V→List V→Hp→VK→Prop) (to:TE) (t:TA):TE:=fun σ H Q=>to σ H fun x H1=>tyV K T x H1∧t σ H1 fun xs H2=>r x xs H2 Q
variable {o e:Expr} {es:List Expr} {to:TE} {t:TA} {name:Str} {apos cpos:Pos} {T id:String} {r:V→List V→Hp→VK→Prop}
theorem pe_bm0 (pa:PlainAttrs T) (slot:Slot T name id) (hty:typeOf (.builtin id) = pure (.type "method_descriptor")) (hm:MtR X id r) (ho:PE X o to)
 (hbase:attributeBase o name X.env (eval o X.env) = eval o X.env:=by rfl) (hline:(apos.endLine == cpos.line) = true:=by rfl):PE X (.Call (.Attribute o name apos) [] [] cpos) (tBM0 X.K T r to):=by
 intro pins s σ H Q I h
 refine wpAny_Call_method0_late hbase hline (thn (ho pins s σ H _ I h) fun v s1 ⟨x,H1,I1,r1,ty,q1⟩=>?_)
 obtain ⟨h1,h2⟩:=tyV_is I1 r1 ty
 exact ⟨T,id,pa,slot,hty,h1,h2,Calls.callWith_builtin rfl (PySem.evalArgs_none (hm pins s1 σ H1 x [] v [] Q I1 r1 .nil q1))⟩
theorem pe_bm (pa:PlainAttrs T) (slot:Slot T name id) (hty:typeOf (.builtin id) = pure (.type "method_descriptor")) (hm:MtR X id r) (ho:PE X o to) (ha:PA X (e::es) t)
 (hbase:attributeBase o name X.env (eval o X.env) = eval o X.env:=by rfl)
 (hfew:((backTo cpos (starEach (e::es) X.env)).all (fun x=>!x.1) && (backToKw cpos (keywordEach [] X.env)).all (fun x=>x.1.isSome)
   && decide ((e::es).length+([]:List Keyword).length+(if ([]:List Keyword).isEmpty then 0 else 1) < 30)) = true:=by rfl)
 (hline:(apos.endLine == cpos.line) = true:=by rfl) (hs:starEach (e::es) X.env = (false,eval e X.env)::starEach es X.env:=by rfl) (hplain:(backTo cpos (starEach es X.env)).any (·.1) = false:=by rfl) :
 PE X (.Call (.Attribute o name apos) (e::es) [] cpos) (tBM X.K T r to t):=by
 intro pins s σ H Q I h
 refine wpAny_Call_method_late hbase hfew hline rfl (thn (ho pins s σ H _ I h) fun v s1 ⟨x,H1,I1,r1,ty,q1⟩=>?_)
 obtain ⟨h1,h2⟩:=tyV_is I1 r1 ty
 refine ⟨T,id,pa,slot,hty,h1,h2,?_⟩
 have hA:=ha cpos pins s1 σ H1 _ I1 q1
 rw [hs] at hA ⊢
 refine Calls.callWith_builtin (by show (false || (backTo cpos (starEach es X.env)).any (·.1)) = false;rw [hplain]<;>rfl) (Calls.evalArgs_plain ?_)
 exact thn hA fun us s2 ⟨vs,H2,I2,r2,q2⟩=>hm pins s2 σ H2 x vs v us Q I2 r1 r2 q2
/- xs.append(e),list.index on a module's tuple .. are MtR facts of 06m -/
end
end L2
namespace L2
open PySem PySem.Spec PyProof.Rows
def MtM (X:Cx) (id:String) (r:V→List V→Hp→VK→Prop):Prop :=
 ∀ (pins:List (Addr × Obj)) (s:Shared) (σ:St) (H:Hp) (x:V) (xs:List V) (v:Value) (us:List Value) (Q:VK),Inv X pins σ H s→RelV x v→Vals xs us→r x xs H Q →
  wpAny (model X.prog X.w) X.A (call (.builtin id) (v::us)) (EP X pins σ Q) X.xe s
theorem Vals.one:∀ {x:V} {us:List Value},Vals [x] us→∃ u,us = [u]∧RelV x u
 | _,_,.cons r .nil=>⟨_,rfl,r⟩
theorem Vals.zero:∀ {us:List Value},Vals [] us→us = []
 | _,.nil=>rfl
theorem Vals.dropLast {xs:List V} {us:List Value} (h:Vals xs us):Vals xs.dropLast us.dropLast:=by
 induction h with
 | nil=>exact .nil
 | cons r t ih =>
   cases t with
   | nil=>exact .nil
   | cons q t'=>exact .cons r ih
theorem erase_last {α:Type} (l:List α):l.eraseIdx (l.length - 1) = l.dropLast:=by
 induction l with
 | nil=>rfl
 | cons a r ih =>
   cases r with
   | nil=>rfl
   | cons b r =>
     have e:(a::b::r).length - 1 = ((b::r).length - 1)+1:=by
      have h1:(a::b::r).length = r.length+2:=rfl
      have h2:(b::r).length = r.length+1:=rfl
      omega
     rw [e,List.eraseIdx_cons_succ,ih]
     all_goals rfl
section
variable {X:Cx} {pins:List (Addr × Obj)} {σ:St} {H:Hp} {s:Shared} {l b:Addr} {xs ys zs:List V}
theorem Inv.lset {its its':List Value} {n:Nat} {f:Array Value→Array Value} {t':Nat} (I:Inv X pins σ H s) (hH:H l = some (.lst xs))
 (e:s.heap.get? l = some { cls:=.type "list",data:=.seq its.toArray n }) (hf:f its.toArray = its'.toArray) (hv:Vals ys its') (hz:ys.length≤sizeLine) :
 Inv X pins σ (upd H l (.lst ys)) { s with heap:=s.heap.update l (Obj.mapSeq f),toks:=t' }:=by
 have q:=PySem.IsL.update e f
 rw [hf] at q
 refine I.write (x:=l) (e:=l) (by rw [hH];exact trivial) (.inl rfl) (fun b' u hb hu=>(Heap.get?_update_other s.heap (Obj.mapSeq f) (Ne.symm hb)).trans hu) ⟨_,q⟩ ?_
 exact ⟨hz,its',_,hv,q⟩
theorem Inv.lnew {its:List Value} {t':Nat} (I:Inv X pins σ H s) (hv:Vals ys its) (hz:ys.length≤sizeLine) :
 Inv X pins σ (upd H s.heap.objs.size (.lst ys)) { s with heap:=s.heap.push { cls:=.type "list",data:=.seq its.toArray },toks:=t' } :=
 I.laid (fun _ _ q=>Heap.get?_push_of_some _ q) (Nat.le_refl _) ⟨hz,its,0,hv,Heap.get?_push_size _ rfl⟩
theorem Inv.fresh (I:Inv X pins σ H s):H s.heap.objs.size = none:=I.hok.fresh (Nat.le_refl _)
theorem Inv.lstM (I:Inv X pins σ H s) (hH:H l = some (.lst xs)):xs.length≤sizeLine∧∃ (its:List Value) (n:Nat),Vals xs its∧xs.length = its.length∧s.heap.get? l = some { cls:=.type "list",data:=.seq its.toArray n }:=by
 obtain ⟨z,its,n,r,e⟩:=I.hok l _ hH
 exact ⟨z,its,n,r,r.length,e⟩
theorem notLongL {n:Nat} (h:n≤sizeLine):Builtin.List.listTooLong n = false:=by
 unfold Builtin.List.listTooLong
 exact decide_eq_false (by omega)
end
section
variable {X:Cx}
def rAppend:V→List V→Hp→VK→Prop:=fun x vs H Q=>∃ l xs y,x = .ref l∧vs = [y]∧H l = some (.lst xs)∧xs.length < sizeLine∧Q .non (upd H l (.lst (xs++[y])))
theorem mt_append:MtM X "list.append" rAppend:=by
 intro pins s σ H x vs v us Q I rx rv h
 obtain ⟨l,xs,y,rfl,rfl,hH,hz,q⟩:=h
 cases rx
 obtain ⟨u,rfl,ru⟩:=rv.one
 obtain ⟨z,its,n,r,hl,e⟩:=I.lstM hH
 refine call_meets F.slot_list_append ⟨_,e,rfl⟩ F.entry_list_append (F.args_list_append_2 _ _) (PySem.list_append l its.toArray n u (by rw [List.size_toArray];omega)) ⟨e,?_⟩
 refine ⟨.non,_,I.lset (its':=its++[u]) hH e (by simp) (r.append (.cons ru .nil)) ?_,rfl,q⟩
 rw [List.length_append,List.length_singleton]
 omega
def rPop:V→List V→Hp→VK→Prop:=fun x vs H Q=>∃ l xs y,x = .ref l∧vs = []∧H l = some (.lst xs)∧xs[xs.length - 1]? = some y∧Q y (upd H l (.lst xs.dropLast))
theorem mt_pop:MtM X "list.pop" rPop:=by
 intro pins s σ H x vs v us Q I rx rv h
 obtain ⟨l,xs,y,rfl,rfl,hH,hy,q⟩:=h
 cases rx
 have hus:=rv.zero
 subst hus
 obtain ⟨z,its,n,r,hl,e⟩:=I.lstM hH
 obtain ⟨u,hu,ru⟩:=r.get hy
 have hy':its.toArray[its.toArray.size - 1]? = some u:=by
  show its.toArray[its.length - 1]? = some u
  rw [← Array.getElem?_toList,← hl]
  exact hu
 refine call_meets F.slot_list_pop ⟨_,e,rfl⟩ F.entry_list_pop (F.args_list_pop_1 _) (MeetsSeq.list_pop_last l its.toArray n u hy' (by rw [List.size_toArray];omega)) ⟨e,?_⟩
 refine ⟨y,_,I.lset (its':=its.dropLast) hH e ?_ r.dropLast ?_,ru,q⟩
 · show its.toArray.eraseIdxIfInBounds (its.toArray.size - 1) = its.dropLast.toArray
   rw [List.size_toArray,List.eraseIdxIfInBounds_toArray,erase_last]
 · rw [List.length_dropLast]
   omega
end
section
variable {prog:Program} {w:World} {A:Around} {E:Value→Shared→Prop} {s:Shared}
end
section
variable {X:Cx}
end
end L2
namespace Att
open PySem PySem.W PySem.Calls PyProof.Rows
theorem ints_of_wellAll {P:Params} {h:Heap}:∀ (ns:List Int) (vs:List Value),WellAll P h vs (ns.map WData.int)→IntsAre vs ns:=by
 intro ns
 induction ns with
 | nil =>
   intro vs w
   rw [List.map_nil] at w
   cases w
   exact .nil
 | cons n ns ih =>
   intro vs w
   rw [List.map_cons] at w
   cases w with
   | cons a b =>
     cases a
     exact .cons _ _ (ih _ b)
theorem script_of {l:OpenLaw} {n:Nat} (hn:l.most = some n) {P:Params} {h:Heap} {args:List WData} {vals:List Value}
 (hpre:l.row.toRowW.claim.pre args = true) (hwl:WellAll P h vals args) :
 ∃ a vs ns,vals = [Value.ref a]∧args = [WData.list (ns.map WData.int)]∧h.get? a = some { cls:=.type "list",data:=.seq vs.toArray }∧IntsAre vs ns∧ns.length≤n:=by
 have hsh:WShape.hasAll [] args [.list .int] = true:=(pre_splitW hpre).1
 have hc:l.pre.holds [] { args:=args } = true:=(pre_splitW hpre).2
 obtain ⟨d,r,rfl,h1,h2⟩:=hasAllW_cons hsh
 obtain rfl:=hasAllW_nil h2
 obtain ⟨xs,rfl,h3⟩:=hasW_list h1
 obtain ⟨ns,rfl⟩:=items_int h3
 have hlen:ns.length≤n:=by
  unfold OpenLaw.pre at hc
  have h4:(WTm.not (.lt (.lit (.int (n:Int))) (.len (.arg 0)))).holds [] { args:=[.list (ns.map .int)] } = true:=by
   have h4:=(holds_andW hc).1
   rw [hn] at h4
   exact h4
  have h5:=condW_of h4 (w_not (w_lt w_lit (w_len_list (w_arg rfl))))
  rw [List.length_map] at h5
  refine Nat.le_of_not_lt fun q=>?_
  have q':(n:Int) < ((ns.length:Nat):Int):=by omega
  first
   | (rw [decide_eq_true q'] at h5;exact absurd h5 (by decide))
   | (simp at h5;omega)
 cases hwl with
 | cons w1 w2 =>
   cases w2
   cases w1 with
   | list ho hall=>exact ⟨_,_,ns,rfl,rfl,ho,ints_of_wellAll ns _ hall,hlen⟩
theorem post_true (l:OpenLaw) (args:List WData):l.row.toRowW.claim.post args (.bool true) args = true :=
 postW_of (r:=l.row.toRowW) (X:=(true == true))
  (show WShape.has [] (.bool true) .bool = true by first | rfl | decide | simp [WShape.has,WShape.arms,WShape.armsAll])
  (show (WTm.eq .res (.lit (.bool true))).value [] { args:=args,res:=some (.bool true),after:=args } = some (.bool (true == true)) from w_eq_bool (w_res rfl) w_lit) rfl
theorem attach_call {l:OpenLaw} {n:Nat} {q:Program} {loose:List Str} {XP:(Str→Option Value)→Heap→Prop} {YP:World→Heap→Prop} {d:DefRec}
 (hn:l.most = some n) (hdf:d.params.defaults = [])
 (call:∀ (w:World) (s₀ s₁:Shared) (mg mb:Str→Option Value) (fa:Addr) (o:Obj) (pm cd doc:Value) (a:Addr) (vs:List Value) (ns:List Int),
   Ground q loose [] XP w s₀ mg mb s₁.heap→YP w s₁.heap →
   s₁.heap.get? fa = some o→o.data = .func (docDef d.name d.params d.body d.scope pm cd doc)→s₁.heap.CodeRec cd d.name→mg d.name = some (.ref fa) →
   s₁.heap.get? a = some { cls:=.type "list",data:=.seq vs.toArray }→IntsAre vs ns→ns.length≤n→s₁.gens = #[] →
   codeAny (model l.prog w) callerA (.call (.ref fa) ⟨[.ref a],[]⟩) (fun r s'=>r = .ok (.ret (.bool true))∧OldK s₁.heap s'.heap∧s'.os = s₁.os∧AllBare s'.gens) s₁) :
 WalkO q loose XP YP l.row.toRowW d [] (fun f vs=>PySem.call f vs):=by
 intro w s₀ s₁ mg mb G Y fa o pm cd doc dV kV ho hd hcd hD hmg hg args vals as hpre hlay hrd hwl hlo
 obtain rfl:dV = .none:=Dflts.none hD hdf
 obtain rfl:kV = .none:=Dflts.noKw hD
 obtain ⟨a,vs,ns,rfl,rfl,hobj,hints,hlen⟩:=script_of hn hpre hwl
 refine enter_call (codeAny_mono (call w s₀ s₁ mg mb fa o pm cd doc a vs ns G Y ho (fd_plain hd) hcd hmg hobj hints hlen hg) fun r s' hq=>?_)
 obtain ⟨rfl,h2,h3,h4⟩:=hq
 exact ⟨.inl ⟨.bool true,.bool true,[],rfl,fun _=>rfl,.bool true,post_true l _,fun _=>⟨List.Pairwise.nil,fun _ hm=>(nomatch hm)⟩⟩,h2,h3,h4⟩
section
variable {prog:Program} {w:World} {A:Around} {E:Value→Shared→Prop} {s:Shared} {K:Frag}
end
end Att
namespace L2
open PySem PySem.Spec PyProof.Rows
theorem vals_ints:∀ {vs:List Value} {ns:List Int},IntsAre vs ns→Vals (ns.map V.int) vs
 | _,_,.nil=>.nil
 | _,_,.cons n t h=>.cons ⟨t,rfl⟩ (vals_ints h)
end L2
namespace L2
open PySem PySem.Spec PyProof.Rows
end L2
/- THE LAST THEOREM (shape;LID,My.* are yours):
 My.Adr: a structure of the addresses that your layer names (classes,functions);My.Txt K t: a structure (Prop) of the equations over K;
 My.txt_mk:{K} {implicit addresses ..} (e1:nsIn K mainGlobals "law" = some (some (.ref f))) (e2:K.lookup f = some ⟨oc,od,.func (fnOf "law" "law" params body scope dV kV doc pm an cdv ct),sl⟩) (e3:codeIn K cdv "law" = true) .. : ∃ t,My.Txt K t
set_option maxRecDepth 100000 in
set_option maxHeartbeats 0 in
theorem PySem.Challenge.cw_LID_holds : PySem.Challenge.rw_LID.Holds := by
 w_on;o_law;k_head;(case hw=>w_witness2)
 k_fill
 refine L2.walk_of (l:=PySem.Challenge.rw_LID) (n:=63) (k:=40) (x:="script") (CX:=fun w=>..) (sp:=fun _=>My.sp_law) rfl (by decide) rfl ⟨rfl,by decide,by decide⟩ (fun w h Y=>PySem.W.kIn_of Y) ?F ?S ?C
 case F =>
  intro w mg fa h KX G hmg
  have T:∃ t,My.Txt (L2.KOf KX) t:=by
   dsimp only [L2.KOf]                          -- K must stand as «<heap const> w.params» for k_is
   refine' My.txt_mk ?e1 ?e2 ?e3 ..
   (case e1=>PySem.W.k_is)                    -- in the order: a name -> its address -> its object -> its parts
   (case e2=>PySem.W.k_is)
   ..
  obtain ⟨t,T⟩:=T
  have e0:=hmg.symm.trans (PySem.W.mg_of KX G T.law)
  cases e0                                       -- fa is the law's own address
  exact ⟨_,fun s u=>.of_eq rfl,fun base kb nb=>My.law_fn T kb nb⟩     -- if «.of_eq rfl» comes too early: refine' ⟨_,?b,fun base kb nb=>My.law_fn T kb nb⟩;exact fun s u=>.of_eq rfl
 case S=>exact fun w H a ns hl hO hS=>..
 case C=>exact ..
(the tactic k_is has no namespace: write k_is) -/
namespace L2
open PySem PySem.Spec PyProof.Rows
def defArgs (s:Stmt):Arguments:=match s with
 | .FunctionDef _ a _ _ _ _ _ _ _ _=>a
 | _=>{ posonlyargs:=[],args:=[],vararg:=none,kwonlyargs:=[],kw_defaults:=[],kwarg:=none,defaults:=[] }
def defBody (s:Stmt):List Stmt:=match s with
 | .FunctionDef _ _ b _ _ _ _ _ _ _=>b
 | _=>[]
def defScope (s:Stmt):Scope:=match s with
 | .FunctionDef _ _ _ _ _ _ sc _ _ _=>sc
 | _=>{ kind:=.function,names:=[],isGenerator:=false,isCoroutine:=false }
abbrev CX0:CXT:=fun _ _ _ _ _ _=>False
abbrev E0:XK:=fun _ _ _=>False
theorem pass0 {X:Cx}:Passes CX0 X E0:=fun _ _ _ _ _ _ _ h=>h.elim
structure Fun (K:PySem.W.Frag) (x qual:Str) (st:Stmt) (f:Addr) (fd:FuncData):Prop where
 ex:∃ (oc:Value) (od:Option Addr) (kV doc pm:Value) (an:Option Addr) (cdv ct:Value) (osl:Array (Option Value)),
  fd = PySem.W.fnOf x qual (defArgs st) (defBody st) (defScope st) .none kV doc pm an cdv ct∧K.lookup f = some ⟨oc,od,.func fd,osl⟩∧PySem.W.codeIn K cdv qual = true
 kp:PySem.W.keepIn K (.ref f) = true
section
variable {P:Program} {w:World} {K:PySem.W.Frag} {mg:Str→Option Value} {base:Heap}
theorem Fun.binds {x qual:Str} {st:Stmt} {f:Addr} {fd:FuncData} {ps:List Str} (F:Fun K x qual st f fd)
 (h:∀ (kV doc pm:Value) (an:Option Addr) (cdv ct:Value) (us:List Value),us.length = ps.length→bindArgs (PySem.W.fnOf x qual (defArgs st) (defBody st) (defScope st) .none kV doc pm an cdv ct) ⟨us,[]⟩ = pure (ps.zip us)):Binds K fd ps []:=by
 obtain ⟨oc,od,kV,doc,pm,an,cdv,ct,osl,rfl,lk,hcd⟩:=F.ex
 exact .all (h kV doc pm an cdv ct)
theorem fun_mk {x qual:Str} {st:Stmt} {f:Addr} {oc:Value} {od an:Option Addr} {osl:Array (Option Value)} {kV doc pm cdv ct:Value} (l:K.lookup f = some ⟨oc,od,.func (PySem.W.fnOf x qual (defArgs st) (defBody st) (defScope st) .none kV doc pm an cdv ct),osl⟩)
 (c:PySem.W.codeIn K cdv qual = true) (k:PySem.W.keepIn K (.ref f) = true):Fun K x qual st f (PySem.W.fnOf x qual (defArgs st) (defBody st) (defScope st) .none kV doc pm an cdv ct):=⟨⟨oc,od,kV,doc,pm,an,cdv,ct,osl,rfl,l,c⟩,k⟩
end
section
variable {X:Cx}
end
theorem iteF {A B:Prop} (h:B):if false = true then A else B:=by
 rw [if_neg Bool.false_ne_true]
 exact h
theorem iteT {A B:Prop} (h:A):if true = true then A else B:=by
 rw [if_pos rfl]
 exact h
def Same (H H':Hp):Prop:=∀ b o,H b = some o→H' b = some o
theorem Same.refl (H:Hp):Same H H:=fun _ _ h=>h
end L2
end
section
namespace L2
open PySem PySem.Spec PyProof.Rows
abbrev TU:=St→Hp→(St→Hp→Prop)→Prop
def PU (X:Cx) (m:Sem Unit) (t:TU):Prop :=
 ∀ (pins:List (Addr × Obj)) (s:Shared) (σ:St) (H:Hp) (Q:St→Hp→Prop),Inv X pins σ H s→t σ H Q →
  wpAny (model X.prog X.w) X.A m (fun _ s'=>∃ σ' H',Inv X pins σ' H' s'∧Q σ' H') X.xe s
def PTs (X:Cx) (ifs:List Expr) (t:TT):Prop :=
 ∀ (pins:List (Addr × Obj)) (s:Shared) (σ:St) (H:Hp) (Q:Bool→Hp→Prop),Inv X pins σ H s→t σ H Q →
  wpAny (model X.prog X.w) X.A (forIn ifs true fun c r=>if r = true then do let ok ← isTrue c X.env (eval c X.env);pure (ForInStep.yield ok) else pure (ForInStep.yield r)) (TP X pins σ Q) X.xe s
section
variable {X:Cx}
theorem pts_nil:PTs X [] (fun _ H Q=>Q true H):=fun pins s σ H Q I h=>wpAny_tests_nil ⟨H,I,h⟩
theorem pts_one {c:Expr} {t:TT} (hc:PT X c t):PTs X [c] t:=fun pins s σ H Q I h=>wpAny_tests_one (hc pins s σ H Q I h)
def tLp (J:It) (g:TG) (tt:TT) (tb:TU):TU:=fun σ H Q=>∃ W:Nat→Nat→St→Hp→Prop,(∃ m,W 0 m σ H)∧∀ i m σ H,W i m σ H →
 (J.stop i H∧Q σ H)∨(J.go i H∧∀ x H',J.yld i H x H'→g x σ H' fun σ2 H2=>tt σ2 H2 fun b H3 =>
   if b = true then tb σ2 H3 fun σ4 H4=>∃ m',m' < m∧W (i+1) m' σ4 H4 else ∃ m',m' < m∧W (i+1) m' σ2 H3)
theorem cloop {e tg:Expr} {d:Nat} {ifs:List Expr} {ip:Pos} {it:Addr} {acc:Value} {body:Sem Unit} {J:It} {fp:List Addr} {tn:Nat→Heap→Prop} {g:TG} {tt:TT} {tb:TU}
 (hx:X.xe = fun _ _=>False) (hc:X.calm = true)
 (hq:(Code.compLoop e d (.ref it) acc X.env).quiet = true)
 (hden:(model X.prog X.w).den (.compLoop e d (.ref it) acc X.env) = (compTurn e d (.ref it) acc X.env).onRaise (fun x=>do noteFrame x X.env;theTreesLotGoes x))
 (hund:X.A.under (.compLoop e d (.ref it) acc X.env) = X.A)
 (hturn:compTurn e d (.ref it) acc X.env = (do
   standAt ip
   match ← pyNext (.ref it) with
   | none=>pure (.done .next)
   | some v =>
     letOwnedTupleGo tg (.ref it) v
     assign tg X.env v
     let mut ok:=true
     for c in ifs do
      if ok then ok ← isTrue c X.env (eval c X.env)
     if ok then body
     again (.compLoop e d (.ref it) acc X.env)))
 (T:Turn X.prog X.w X.K tg J fp it tn) (hg:PG X tg g) (ht:PTs X ifs tt) (hb:PU X body tb) {R:Result→Shared→Prop}
 {pins:List (Addr × Obj)} {s:Shared} {σ:St} {H:Hp} {Q:St→Hp→Prop} (I:Inv X pins σ H s) (st:tn 0 s.heap) (f:∀ b∈fp,FpOk X pins H b) (h:tLp J g tt tb σ H Q)
 (hR:∀ s' σ' H',Inv X pins σ' H' s'→Q σ' H'→R (.ok .next) s'):codeAny (model X.prog X.w) X.A (.compLoop e d (.ref it) acc X.env) R s:=by
 obtain ⟨W,⟨m0,w0⟩,turn⟩:=h
 have stat:∀ {H':Hp},(∀ b∈fp,H' b = none)→∀ b∈fp,FpOk X pins H' b:=fun hn b hb=>⟨hn b hb,(f b hb).2⟩
 refine codeAny_loop hq (fun n s'=>∃ i σ' H',Inv X pins σ' H' s'∧tn i s'.heap∧(∀ b∈fp,H' b = none)∧W i n σ' H') ?_ m0 ⟨0,σ,H,I,st,fun b hb=>(f b hb).1,w0⟩
 rintro n s3 ⟨i,σ3,H3,I3,st3,fr3,w3⟩
 rw [hden,hund,hturn]
 refine wpAny_noted ?_
 have cut:∀ {α:Type} {m:Sem α} {Q:α→Shared→Prop} {s:Shared} {E':Value→Shared→Prop},wpAny (model X.prog X.w) X.A m Q X.xe s→wpAny (model X.prog X.w) X.A m Q E' s:=fun z=>by
  rw [hx] at z
  exact wpAny_noRaise z
 refine wpAny_bind (wpAny_standAt (wpAny_bind ?_))
 rcases turn i n σ3 H3 w3 with ⟨stop,qn⟩ | ⟨go,step⟩
 · refine cut (thn (T.done X rfl rfl rfl hc i pins s3 σ3 H3 X.xe I3 (stat fr3) st3 stop) fun r s4 ⟨hr,I4⟩=>?_)
   subst hr
   exact wpAny_pure (hR s4 σ3 H3 I4 qn)
 · refine cut (thn (T.item X rfl rfl rfl hc i pins s3 σ3 H3 X.xe I3 (stat fr3) st3 go) fun r s4 ⟨u,hr,h4⟩=>?_)
   subst hr
   refine wpAny_bind (cut (thn h4 fun _ s5 ⟨x,H5,I5,r5,y5,st5,fr5⟩=>?_))
   have I5':=I5.pinned (stat fr5) (T.obj _ _ st5)
   refine wpAny_bind (cut (thn (hg _ s5 σ3 H5 x u _ I5' r5 (step x H5 y5)) fun _ s6 ⟨σ6,H6,I6,q6⟩=>?_))
   have again:∀ {σ7:St} {H7:Hp} {s7:Shared},Inv X (pins++pinsAt fp s5.heap) σ7 H7 s7→(∃ m',m' < n∧W (i+1) m' σ7 H7)→∃ m,m < n∧∃ i σ' H',Inv X pins σ' H' s7∧tn i s7.heap∧(∀ b∈fp,H' b = none)∧W i m σ' H':=fun {σ7 H7 s7} I7 n7=>by
    obtain ⟨m',hm,w7⟩:=n7
    refine ⟨m',hm,i+1,σ7,H7,I7.unpinned,T.keep _ _ _ st5 fun b hb o e=>(I7.pin (b,o) (List.mem_append_right _ (List.mem_append_right _ (mem_pinsAt hb e)))).1,fun b hb=>?_,w7⟩
    obtain ⟨o,e,d⟩:=T.obj _ _ st5 b hb
    exact (I7.pin (b,o) (List.mem_append_right _ (List.mem_append_right _ (mem_pinsAt hb e)))).2.1
   refine wpAny_bind (cut (thn (ht _ s6 σ6 H6 _ I6 q6) fun ok s7 ⟨H7,I7,q7⟩=>?_))
   cases ok with
   | false =>
     rw [if_neg Bool.false_ne_true] at q7
     exact wpAny_pure ⟨rfl,again I7 q7⟩
   | true =>
     rw [if_pos rfl] at q7
     refine wpAny_bind (cut (thn (hb _ s7 σ6 H7 _ I7 q7) fun _ s8 ⟨σ8,H8,I8,q8⟩=>?_))
     exact wpAny_pure ⟨rfl,again I8 q8⟩
end
end L2
end
section
namespace L2
open PySem PySem.Spec PyProof.Rows
def cloF (env:Env):List (Str × NameKind)→List (Str × Addr)→List (Str × Addr)
 | [],cs=>cs
 | (n,k)::r,cs=>cloF env r (if k == .free then (n,(env.cells.lookup n).getD 0)::cs else cs)
theorem clo_run {env:Env}:∀ (names:List (Str × NameKind)) (cs:List (Str × Addr)),(∀ x,(x,NameKind.free)∈names→∃ c,env.cells.lookup x = some c) →
 (forIn names cs fun x r=>match x with | (name,kind)=>(do
   if (kind == NameKind.free) = true then do
    let y ← cellOf env name
    pure (ForInStep.yield ((name,y)::r))
   else pure (ForInStep.yield r):Sem (ForInStep (List (Str × Addr))))) = (pure (cloF env names cs):Sem (List (Str × Addr)))
 | [],cs,_=>rfl
 | (n,k)::r,cs,h=>by
   have ih:=fun cs=>clo_run (env:=env) r cs fun x hx=>h x (List.mem_cons_of_mem _ hx)
   rw [List.forIn_cons]
   by_cases hk:k = .free
   · subst hk
     obtain ⟨c,e⟩:=h n List.mem_cons_self
     have e2:cellOf env n = pure c:=by unfold cellOf;rw [e]
     simp only [beq_self_eq_true,if_true,e2,pure_bind,cloF,e,Option.getD_some]
     exact ih _
   · have hb:(k == NameKind.free) = false:=by simpa using hk
     simp only [hb,Bool.false_eq_true,if_false,pure_bind,cloF]
     exact ih _
theorem clo_of {env:Env} {scope:Scope} (h:∀ x,(x,NameKind.free)∈scope.names→∃ c,env.cells.lookup x = some c):closureFor scope env = pure (cloF env scope.names []):=by
 have q:=clo_run (env:=env) scope.names [] h
 unfold closureFor
 rw [← bind_pure (pure (cloF env scope.names []):Sem _),← q]
theorem clo_mem {env:Env}:∀ (names:List (Str × NameKind)) (cs:List (Str × Addr)),(∀ x,(x,NameKind.free)∈names→∃ c,env.cells.lookup x = some c)→∀ p∈cloF env names cs,p∈cs∨env.cells.lookup p.1 = some p.2
 | [],cs,_,p,hp=>.inl hp
 | (n,k)::r,cs,h,p,hp=>by
   unfold cloF at hp
   have ih:=clo_mem (env:=env) r _ (fun x hx=>h x (List.mem_cons_of_mem _ hx)) p hp
   rcases ih with ih | ih
   · by_cases hk:k = .free
     · subst hk
       rw [if_pos (by simp)] at ih
       rcases List.mem_cons.mp ih with rfl | ih
       · obtain ⟨c,e⟩:=h n List.mem_cons_self
         right
         rw [e];rfl
       · exact .inl ih
     · rw [if_neg (by simpa using hk)] at ih
       exact .inl ih
   · exact .inr ih
theorem clo_has {env:Env}:∀ (names:List (Str × NameKind)) (cs:List (Str × Addr)) (x:Str),((x,NameKind.free)∈names∨∃ c,(x,c)∈cs)→∃ c,(x,c)∈cloF env names cs
 | [],cs,x,h=>by
   rcases h with h | h
   · cases h
   · exact h
 | (n,k)::r,cs,x,h=>by
   unfold cloF
   refine clo_has (env:=env) r _ x ?_
   rcases h with h | ⟨c,h⟩
   · rcases List.mem_cons.mp h with e | h
     · cases e
       right
       rw [if_pos (by simp)]
       exact ⟨_,List.mem_cons_self⟩
     · exact .inl h
   · right
     split
     · exact ⟨c,List.mem_cons_of_mem _ h⟩
     · exact ⟨c,h⟩
theorem lookup_of_mem {α:Type}:∀ {l:List (Str × α)} {x:Str} {c:α},(x,c)∈l→∃ d,l.lookup x = some d
 | [],_,_,h=>by cases h
 | (y,d)::r,x,c,h=>by
   rw [List.lookup_cons]
   cases e:x == y with
   | true=>exact ⟨d,rfl⟩
   | false =>
     rcases List.mem_cons.mp h with q | q
     · cases q;simp at e
     · exact lookup_of_mem q
structure CScope (X:Cx) (scope:Scope):Prop where
 kind:scope.kind = .function
 nocell:∀ y∈scope.names,y.2≠.cell
 names:∀ y∈scope.names,y.2 = .local→scope.names.lookup y.1 = some .local
 free:∀ x,(x,NameKind.free)∈scope.names→X.env.kindOf x = some .cell∨X.env.kindOf x = some .free
def cxC (X:Cx) (scope:Scope) (cl:List (Str × Addr)) (C:Addr) (Nc:List Str) (s:Shared) (H:Hp) (fp:List Addr):Cx :=
 { X with N:=Nc,s₀:=s,H₀:=H,env:=compEnvC scope cl C X.env,outer:=X.stack,ex:=fp,fn:=fun _=>false,pn:=[],xe:=fun _ _=>False }
theorem relabel_lookup {scope:Scope} {env:Env}:∀ (names:List (Str × NameKind)) (x:Str),
 (names.map fun (n,k)=>if (k == NameKind.free && env.scope.kind == .function && env.kindOf n == some .cell) then (n,NameKind.cell) else (n,k)).lookup x =
   (names.lookup x).map fun k=>if (k == NameKind.free && env.scope.kind == .function && env.kindOf x == some .cell) then NameKind.cell else k
 | [],x=>rfl
 | (n,k)::r,x=>by
   have ih:=relabel_lookup (scope:=scope) (env:=env) r x
   rw [List.map_cons]
   cases hx:x == n with
   | true =>
     have e:x = n:=by simpa using hx
     subst e
     by_cases hc:(k == NameKind.free && env.scope.kind == .function && env.kindOf x == some .cell) = true
     · simp only [hc,if_true,List.lookup_cons,beq_self_eq_true,Option.map_some]
     · simp only [hc,if_false,List.lookup_cons,beq_self_eq_true,Option.map_some,Bool.false_eq_true]
   | false =>
     by_cases hc:(k == NameKind.free && env.scope.kind == .function && env.kindOf n == some .cell) = true
     · simp only [hc,if_true,List.lookup_cons,hx]
       exact ih
     · simp only [hc,if_false,List.lookup_cons,hx,Bool.false_eq_true]
       exact ih
theorem comp_kind {scope:Scope} {env:Env} {cl:List (Str × Addr)} {C:Addr} (x:Str):(compEnvC scope cl C env).kindOf x =
 (scope.names.lookup x).map fun k=>if (k == NameKind.free && env.scope.kind == .function && env.kindOf x == some .cell) then NameKind.cell else k:=relabel_lookup (scope:=scope) (env:=env) scope.names x
theorem comp_cellfree {scope:Scope} {env:Env} {cl:List (Str × Addr)} {C:Addr} {x:Str} (nc:∀ y∈scope.names,y.2≠.cell) (h:(compEnvC scope cl C env).kindOf x = some .cell∨(compEnvC scope cl C env).kindOf x = some .free) :
 scope.names.lookup x = some .free:=by
 rw [comp_kind] at h
 cases e:scope.names.lookup x with
 | none=>rw [e] at h;simp at h
 | some k =>
   rw [e] at h
   have hm:=PySem.mem_of_lookup e
   have:=nc _ hm
   simp only [Option.map_some] at h
   cases k<;>simp_all
theorem inv_block {X:Cx} {scope:Scope} {C:Addr} {Nc:List Str} {s:Shared} {h1:Heap} {t1:Nat} {H:Hp} {fp:List Addr} {pins:List (Addr × Obj)} {σ:St}
 (S:CScope X scope) (I:Inv X pins σ H s) (hf:∀ b∈fp,FpOk X pins H b) (hfl:∀ b∈fp,b < s.heap.objs.size) (hC:C = s.heap.objs.size) (hns:h1.Ns C fun _=>none) (hk:∀ b o,s.heap.get? b = some o→h1.get? b = some o)
 (hN:∀ i x,i < X.N.length→Nc[i]? = some x→Vis scope x→X.N[i]? = some x∧scope.names.lookup x = some .free) (hl:X.N.length≤Nc.length) :
 Inv (cxC X scope (cloF X.env scope.names []) C Nc s H fp) [] (σ++List.replicate (Nc.length - X.N.length) none) H { s with heap:=h1,toks:=t1 }:=by
 have hcl:∀ x,(x,NameKind.free)∈scope.names→∃ c,X.env.cells.lookup x = some c:=fun x hx=>I.ok.has x (S.free x hx)
 have hlk:∀ x c,(cloF X.env scope.names []).lookup x = some c→X.env.cells.lookup x = some c:=fun x c e=>by
  have:=clo_mem scope.names [] hcl _ (PySem.mem_of_lookup e)
  rcases this with z | z
  · cases z
  · exact z
 subst hC
 have neC:∀ x c,(cloF X.env scope.names []).lookup x = some c→c < s.heap.objs.size:=fun x c e=>by
  obtain ⟨v,z⟩:=I.cell x c (hlk x c e)
  exact z.lt
 refine ⟨⟨I.ok.mod,S.kind,I.ok.glob,I.ok.blt,Nat.le_refl _,fun x y c e1 e2=>I.ok.inj x y c (hlk x c e1) (hlk y c e2),fun x hx=>?_,fun x c z _=>absurd z Bool.false_ne_true,I.ok.hd,I.ok.frames,.inl rfl,fun b hb=>⟨Nat.ne_of_lt (hfl b hb),fun x c e=>(hf b hb).2.2.2.2.1 x c (hlk x c e)⟩,
  I.bs,Nat.le_trans I.ok.bsz I.sz,fun b o e hb=>?_,fun b hb hz=>?_,I.stack,I.stkFree⟩,rfl,I.bare,Un.kept hk,⟨_,hns,fun i x v e1 e2 e3=>?_⟩,fun x c e=>?_,I.hok.fresh (Nat.le_refl _),fun x c e=>I.freeC x c (hlk x c e),fun p hp=>absurd (show p∈([]:List (Addr × Obj)) from hp) (by simp),I.hok.kept hk,?_⟩
 · have q:=comp_cellfree (cl:=cloF X.env scope.names []) (C:=s.heap.objs.size) S.nocell hx
   obtain ⟨c,hm⟩:=clo_has (env:=X.env) scope.names [] x (.inl (PySem.mem_of_lookup q))
   exact lookup_of_mem hm
 · obtain ⟨_,_,_,f3,_⟩:=hf b hb
   rcases f3 with z | z
   · exact I.ok.noex b o e z
   · exact absurd (Nat.lt_of_lt_of_le (Heap.lt_size e) (Nat.le_trans I.ok.bsz z)) (Nat.lt_irrefl _)
 · obtain ⟨_,f1,f2,_⟩:=hf b hb
   rcases List.mem_cons.mp (I.stkSub b hz) with q | q
   · exact f1 q
   · exact f2 q
 · have e1:Nc[i]? = some x:=e1
   have hi:i < X.N.length:=by
    by_cases hi:i < X.N.length
    · exact hi
    · rw [List.getElem?_append_right (by rw [I.len];omega),List.getElem?_replicate] at e2
      split at e2<;>cases e2
   rw [List.getElem?_append_left (by rw [I.len];exact hi)] at e2
   have vis:Vis scope x:=by
    have e3:Vis (relabel scope X.env) x:=e3
    unfold Vis relabel at e3
    rw [relabel_lookup (scope:=scope)] at e3
    unfold Vis
    cases q:scope.names.lookup x with
    | none=>rw [q] at e3;simp at e3
    | some k =>
      rw [q] at e3
      simp only [Option.map_some] at e3
      have:=S.nocell _ (PySem.mem_of_lookup q)
      cases k<;>simp_all
   obtain ⟨n1,n2⟩:=hN i x hi e1 vis
   obtain ⟨m,hn,hl'⟩:=I.loc
   have kd:=S.free x (PySem.mem_of_lookup n2)
   have visX:Vis X.env.scope x:=by
    rcases kd with z | z
    · exact .inr (.inl z)
    · exact .inr (.inr z)
   obtain ⟨u,r,l⟩:=hl' i x v n1 e2 visX
   refine ⟨u,r,.inr ?_⟩
   rcases l with ⟨k,_⟩ | ⟨k,c,ec,z⟩
   · rcases kd with z | z
     · rw [z] at k;cases k
     · rw [z] at k;cases k
   · obtain ⟨c',hm⟩:=clo_has (env:=X.env) scope.names [] x (.inl (PySem.mem_of_lookup n2))
     obtain ⟨c2,hc2⟩:=lookup_of_mem hm
     have:=hlk x c2 hc2
     rw [ec] at this
     cases this
     refine ⟨?_,c,hc2,?_⟩
     · show (compEnvC scope (cloF X.env scope.names []) s.heap.objs.size X.env).kindOf x = some .cell∨(compEnvC scope (cloF X.env scope.names []) s.heap.objs.size X.env).kindOf x = some .free
       rw [comp_kind,n2]
       simp only [Option.map_some]
       split
       · exact .inl rfl
       · exact .inr rfl
     · obtain ⟨o,ho,hd⟩:=z
       exact ⟨o,hk _ _ ho,hd⟩
 · obtain ⟨v,o,ho,hd⟩:=I.cell x c (hlk x c e)
   exact ⟨v,o,hk _ _ ho,hd⟩
 · show _ = Nc.length
   rw [List.length_append,List.length_replicate,I.len]
   omega
def tEmit (D:Addr) (te:TE):TU:=fun σ H Q=>te σ H fun y H'=>∃ xs,H' D = some (.lst xs)∧xs.length < sizeLine∧Q σ (upd H' D (.lst (xs++[y])))
theorem pu_emit {X:Cx} {elt:Expr} {te:TE} {D:Addr} (he:PE X elt te):PU X (do let _ ← call (.builtin "list.append") [.ref D,← eval elt X.env]) (tEmit D te):=by
 intro pins s σ H Q I h
 refine wpAny_bind (thn (he pins s σ H _ I h) fun u s1 ⟨y,H1,I1,r1,xs,hD,hz,q⟩=>?_)
 refine wpAny_bind (thn (mt_append pins s1 σ H1 (.ref D) [y] (.ref D) [u] (fun _ H'=>Q σ H') I1 rfl (.cons r1 .nil) ⟨D,xs,y,rfl,rfl,hD,hz,q⟩) fun _ s2 ⟨_,H2,I2,_,q2⟩=>?_)
 exact wpAny_pure ⟨σ,H2,I2,q2⟩
def tLC (k:Nat) (wi:TI) (g:TG) (tt:TT) (te:TE):TE:=fun σ H Q=>wi σ H fun J H1=>∀ D,H1 D = none →
 tLp J g tt (tEmit D te) (σ++List.replicate k none) (upd H1 D (.lst [])) fun _ H2=>Q (.ref D) H2
theorem inv_behind {X:Cx} {scope:Scope} {cl:List (Str × Addr)} {C:Addr} {Nc:List Str} {s s':Shared} {h2:Heap} {H H':Hp} {fp:List Addr} {pins:List (Addr × Obj)} {σ σ':St}
 (I:Inv X pins σ H s) (hf:∀ b∈fp,FpOk X pins H b) (hC:C = s.heap.objs.size) (J:Inv (cxC X scope cl C Nc s H fp) [] σ' H' s') (hs:Heap.SameBut C s'.heap h2):Inv X pins σ H' { s' with heap:=h2 }:=by
 have hok:HOk X.prog X.w H' h2:=fun b ob e=>by
  refine (J.hok b ob e).stay (fun c w' hc q=>(hs.2 c ?_).trans q) (fun _ q=>q) fun _ _ q=>q
  rintro rfl
  have fr:H' c = none:=J.free
  rcases hc with rfl | hc
  · rw [fr] at e;cases e
  · rw [fr] at hc;cases hc
 have neC:∀ b o,s.heap.get? b = some o→b≠C:=fun b o e=>by rw [hC];exact Nat.ne_of_lt (Heap.lt_size e)
 refine I.call' (s':={ s' with heap:=h2 }) (ch:=fp) J.os ⟨fun b o e n hb hx=>?_,fun b o e n hb hx=>?_,fun b o e n hx=>J.base.free b o e n hx,fun b o e hx=>?_,J.base.tups,J.base.frzs,J.base.tbls⟩ hok J.bare fun b hb=>?_
 · exact (hs.2 b (neC b o e)).trans (J.base.keep b o e n hb hx)
 · obtain ⟨sl,z⟩:=J.base.slot b o e n hb hx
   exact ⟨sl,(hs.2 b (neC b o e)).trans z⟩
 · obtain ⟨o',z⟩:=J.base.there b o e hx
   exact ⟨o',(hs.2 b (neC b o e)).trans z⟩
 · obtain ⟨f0,f1,f2,f3,f4,f5⟩:=hf b hb
   exact ⟨f3,f1,f4,f5⟩
theorem fpok_block {X:Cx} {scope:Scope} {C:Addr} {Nc:List Str} {s:Shared} {H H':Hp} {fp:List Addr} {pins:List (Addr × Obj)} {σ:St}
 (S:CScope X scope) (I:Inv X pins σ H s) (hf:∀ b∈fp,FpOk X pins H b) (hfl:∀ b∈fp,b < s.heap.objs.size) (hC:C = s.heap.objs.size) (hn:∀ b∈fp,H' b = none) :
 ∀ b∈fp,FpOk (cxC X scope (cloF X.env scope.names []) C Nc s H fp) [] H' b:=fun b hb=>by
 have hcl:∀ x,(x,NameKind.free)∈scope.names→∃ c,X.env.cells.lookup x = some c:=fun x hx=>I.ok.has x (S.free x hx)
 obtain ⟨f0,f1,f2,f3,f4,f5⟩:=hf b hb
 refine ⟨hn b hb,?_,fun z=>?_,.inl hb,fun x c e=>?_,fun p hp=>absurd (show p∈([]:List (Addr × Obj)) from hp) (by simp)⟩
 · show b≠C
   rw [hC];exact Nat.ne_of_lt (hfl b hb)
 · rcases List.mem_cons.mp (I.stkSub b z) with q | q
   · exact f1 q
   · exact f2 q
 · have:=clo_mem scope.names [] hcl _ (PySem.mem_of_lookup e)
   rcases this with z | z
   · cases z
   · exact f4 x c z
theorem pe_lcomp {X:Cx} {elt tg iter:Expr} {ifs:List Expr} {scope:Scope} {pos:Pos} {Nc:List Str} {wi:TI} {g:TG} {tt:TT} {te:TE}
 (hx:X.xe = fun _ _=>False) (hc:X.calm = true) (S:CScope X scope) (hN:∀ i x,i < X.N.length→Nc[i]? = some x→Vis scope x→X.N[i]? = some x∧scope.names.lookup x = some .free) (hl:X.N.length≤Nc.length)
 (hi:PI X tg iter wi) (hg:∀ cl C s H fp,PG (cxC X scope cl C Nc s H fp) tg g) (ht:∀ cl C s H fp,PTs (cxC X scope cl C Nc s H fp) ifs tt) (he:∀ cl C s H fp,PE (cxC X scope cl C Nc s H fp) elt te)
 (hs:∀ x,foldedSetIterable iter X.env x = pure x):PE X (.ListComp elt [⟨tg,iter,ifs,0⟩] scope pos) (tLC (Nc.length - X.N.length) wi g tt te):=by
 intro pins s σ H Q I h
 rw [eval_ListComp]
 have cutE:∀ {α:Type} {m:Sem α} {Q:α→Shared→Prop} {s:Shared} {E':Value→Shared→Prop},wpAny (model X.prog X.w) X.A m Q X.xe s→wpAny (model X.prog X.w) X.A m Q E' s:=fun z=>by
  rw [hx] at z
  exact wpAny_noRaise z
 refine wpAny_comprehension_free (use:=none) rfl hs (clo_of fun x hz=>I.ok.has x (S.free x hz)) S.kind S.names (thn (hi pins s σ H _ I h) fun v s1 h1=>thn h1 fun itv s2 h2=>?_)
 obtain ⟨it,fp,tn,J,H2,e,I2,T,st2,f2,q⟩:=h2
 subst e
 refine wpAny_newObj_type (hd:=by size_fits) ?_
 have hfr:=I2.fresh
 have I3:Inv X pins σ (upd H2 s2.heap.objs.size (.lst [])) { s2 with heap:=s2.heap.push { cls:=.type "list",data:=.seq ([]:List Value).toArray } }:=I2.lnew (t':=s2.toks) (its:=[]) .nil (Nat.zero_le _)
 have st3:tn 0 (s2.heap.push { cls:=.type "list",data:=.seq ([]:List Value).toArray }):=T.keep _ _ _ st2 fun b _ o e=>Heap.get?_push_of_some _ e
 have fl3:∀ b∈fp,b < s2.heap.objs.size:=fun b hb=>by
  obtain ⟨o,e,_⟩:=T.obj _ _ st2 b hb
  exact Heap.lt_size e
 have ne3:∀ b∈fp,upd H2 s2.heap.objs.size (.lst []) b = none:=fun b hb=>by rw [upd_ne (Nat.ne_of_lt (fl3 b hb))];exact (f2 b hb).1
 have f3:∀ b∈fp,FpOk X pins (upd H2 s2.heap.objs.size (.lst [])) b:=fun b hb=>⟨ne3 b hb,(f2 b hb).2⟩
 have q3:=q s2.heap.objs.size hfr
 generalize hH3:upd H2 s2.heap.objs.size (.lst []) = H3 at I3 ne3 f3 q3
 generalize hs3:({ s2 with heap:=s2.heap.push { cls:=.type "list",data:=.seq ([]:List Value).toArray } }:Shared) = s3 at I3
 have hs3h:s3.heap = s2.heap.push { cls:=.type "list",data:=.seq ([]:List Value).toArray }:=by rw [← hs3]
 rw [← hs3h] at st3
 have fl4:∀ b∈fp,b < s3.heap.objs.size:=fun b hb=>by rw [hs3h,Heap.size_push];exact Nat.lt_succ_of_lt (fl3 b hb)
 refine wpAny_newFunctionEnv S.nocell (by intro y hy;simp at hy) (fun h1 hns hsb=>?_) S.kind
 have keep1:∀ b o,s3.heap.get? b = some o→h1.get? b = some o:=fun b o e=>hsb.extBut b o (Nat.ne_of_lt (Heap.lt_size e)) (Heap.get?_push_of_some _ e)
 have J0:=inv_block (h1:=h1) (t1:=s3.toks+([]:List (Str × Value)).length) S I3 f3 fl4 rfl (by simpa using hns) keep1 hN hl
 have st4:tn 0 h1:=T.keep _ _ _ st3 fun b _ o e=>keep1 b o e
 have loop:∀ s4:Shared,s4 = { s3 with heap:=h1,toks:=s3.toks+([]:List (Str × Value)).length } →
  codeAny (model X.prog X.w) X.A (.compLoop (.ListComp elt [⟨tg,iter,ifs,0⟩] scope pos) 0 (.ref it) (.ref s2.heap.objs.size) (compEnvC scope (cloF X.env scope.names []) s3.heap.objs.size X.env))
   (compPost (model X.prog X.w) X.A X.xe none (EP X pins σ Q) (.ref s2.heap.objs.size) s3.heap.objs.size) s4:=by
  rintro s4 rfl
  refine cloop (X:=cxC X scope (cloF X.env scope.names []) s3.heap.objs.size Nc s3 H3 fp) (ip:=iter.pos) (body:=(do let _ ← call (.builtin "list.append") [.ref s2.heap.objs.size,← eval elt (compEnvC scope (cloF X.env scope.names []) s3.heap.objs.size X.env)]))
   rfl hc rfl rfl rfl (by rw [compTurn_list]<;>rfl) T (hg _ _ _ _ _) (ht _ _ _ _ _) (pu_emit (he _ _ _ _ _)) J0 st4 (fpok_block S I3 f3 fl4 rfl ne3) q3 ?_
  intro s' σ' H' J' q'
  obtain ⟨m,hn,_⟩:=J'.loc
  exact ⟨m,hn,fun h2 hs2=>⟨.ref s2.heap.objs.size,H',inv_behind I3 f3 rfl J' hs2,rfl,q'⟩⟩
 exact codeAny_compStart_list (loop _ rfl) (T.self _ _ _ _ _ st4 (loop _ rfl))
end L2
end
section
namespace L2
open PySem PySem.Spec PyProof.Rows
theorem ps_lcomp {X:Cx} {elt tg iter:Expr} {ifs:List Expr} {scope:Scope} {pos spos py:Pos} {Nc:List Str} {wi:TI} {g:TG} {tt:TT} {te:TE} {i:Nat} {y:Str}
 (hx:X.xe = fun _ _=>False) (hc:X.calm = true) (S:CScope X scope) (hN:∀ i x,i < X.N.length→Nc[i]? = some x→Vis scope x→X.N[i]? = some x∧scope.names.lookup x = some .free) (hl:X.N.length≤Nc.length)
 (hi:PI X tg iter wi) (hg:∀ cl C s H fp,PG (cxC X scope cl C Nc s H fp) tg g) (ht:∀ cl C s H fp,PTs (cxC X scope cl C Nc s H fp) ifs tt) (he:∀ cl C s H fp,PE (cxC X scope cl C Nc s H fp) elt te)
 (hs:∀ x,foldedSetIterable iter X.env x = pure x)
 (hNd:X.N.Nodup) (hy:X.N[i]? = some y) (hv:Loc X.env.scope y) (hf:X.fn y = true∨X.env.scope.names.lookup y = some .local)
 (hsw:swapsWith (.ListComp elt [⟨tg,iter,ifs,0⟩] scope pos) (some (.Name y py)) spos.line X.env = pure true) :
 PS X (.Assign [.Name y py] (.ListComp elt [⟨tg,iter,ifs,0⟩] scope pos) spos) (tAsg (tLC (Nc.length - X.N.length) wi g tt te) (gName i)):=by
 intro pins s σ H Q I h
 rw [exec_Assign_Name_used _ _ _ _ hsw]
 refine wpAny_bind (wpAny_standAt (wpAny_bind ?_))
 show wpAny _ X.A (do let _ ← comprehension (.ListComp elt [⟨tg,iter,ifs,0⟩] scope pos) scope X.env _ (newList []) false (eval iter X.env) (some (assign (.Name y py) X.env))) _ _ s
 refine wpAny_bind (wpAny_mono (wpAny_comprehension_free (use:=some (assign (.Name y py) X.env)) (Q:=fun _ s'=>SP X pins Q .next s') rfl hs (clo_of fun x hz=>I.ok.has x (S.free x hz)) S.kind S.names
  (thn (hi pins s σ H _ I h) fun v s1 h1=>thn h1 fun itv s2 h2=>?_)) (fun _ s' hq=>wpAny_pure (wpAny_pure hq)) fun _ _ e=>e)
 obtain ⟨it,fp,tn,J,H2,e,I2,T,st2,f2,q⟩:=h2
 subst e
 refine wpAny_newObj_type (hd:=by size_fits) ?_
 have hfr:=I2.fresh
 have I3:Inv X pins σ (upd H2 s2.heap.objs.size (.lst [])) { s2 with heap:=s2.heap.push { cls:=.type "list",data:=.seq ([]:List Value).toArray } }:=I2.lnew (t':=s2.toks) (its:=[]) .nil (Nat.zero_le _)
 have st3:tn 0 (s2.heap.push { cls:=.type "list",data:=.seq ([]:List Value).toArray }):=T.keep _ _ _ st2 fun b _ o e=>Heap.get?_push_of_some _ e
 have fl3:∀ b∈fp,b < s2.heap.objs.size:=fun b hb=>by
  obtain ⟨o,e,_⟩:=T.obj _ _ st2 b hb
  exact Heap.lt_size e
 have ne3:∀ b∈fp,upd H2 s2.heap.objs.size (.lst []) b = none:=fun b hb=>by rw [upd_ne (Nat.ne_of_lt (fl3 b hb))];exact (f2 b hb).1
 have f3:∀ b∈fp,FpOk X pins (upd H2 s2.heap.objs.size (.lst [])) b:=fun b hb=>⟨ne3 b hb,(f2 b hb).2⟩
 have q3:=q s2.heap.objs.size hfr
 generalize hH3:upd H2 s2.heap.objs.size (.lst []) = H3 at I3 ne3 f3 q3
 generalize hs3:({ s2 with heap:=s2.heap.push { cls:=.type "list",data:=.seq ([]:List Value).toArray } }:Shared) = s3 at I3
 have hs3h:s3.heap = s2.heap.push { cls:=.type "list",data:=.seq ([]:List Value).toArray }:=by rw [← hs3]
 rw [← hs3h] at st3
 have fl4:∀ b∈fp,b < s3.heap.objs.size:=fun b hb=>by rw [hs3h,Heap.size_push];exact Nat.lt_succ_of_lt (fl3 b hb)
 refine wpAny_newFunctionEnv S.nocell (by intro y hy;simp at hy) (fun h1 hns hsb=>?_) S.kind
 have keep1:∀ b o,s3.heap.get? b = some o→h1.get? b = some o:=fun b o e=>hsb.extBut b o (Nat.ne_of_lt (Heap.lt_size e)) (Heap.get?_push_of_some _ e)
 have J0:=inv_block (h1:=h1) (t1:=s3.toks+([]:List (Str × Value)).length) S I3 f3 fl4 rfl (by simpa using hns) keep1 hN hl
 have st4:tn 0 h1:=T.keep _ _ _ st3 fun b _ o e=>keep1 b o e
 have loop:∀ s4:Shared,s4 = { s3 with heap:=h1,toks:=s3.toks+([]:List (Str × Value)).length } →
  codeAny (model X.prog X.w) X.A (.compLoop (.ListComp elt [⟨tg,iter,ifs,0⟩] scope pos) 0 (.ref it) (.ref s2.heap.objs.size) (compEnvC scope (cloF X.env scope.names []) s3.heap.objs.size X.env))
   (compPost (model X.prog X.w) X.A X.xe (some (assign (.Name y py) X.env)) (fun _ s'=>SP X pins Q .next s') (.ref s2.heap.objs.size) s3.heap.objs.size) s4:=by
  rintro s4 rfl
  refine cloop (X:=cxC X scope (cloF X.env scope.names []) s3.heap.objs.size Nc s3 H3 fp) (ip:=iter.pos) (body:=(do let _ ← call (.builtin "list.append") [.ref s2.heap.objs.size,← eval elt (compEnvC scope (cloF X.env scope.names []) s3.heap.objs.size X.env)]))
   rfl hc rfl rfl rfl (by rw [compTurn_list]<;>rfl) T (hg _ _ _ _ _) (ht _ _ _ _ _) (pu_emit (he _ _ _ _ _)) J0 st4 (fpok_block S I3 f3 fl4 rfl ne3) q3 ?_
  intro s' σ' H' J' q'
  have hC:H' s3.heap.objs.size = none:=J'.free
  obtain ⟨m,hn,_⟩:=J'.loc
  have hn:s'.heap.Ns s3.heap.objs.size m:=hn
  -- the frame's state,the block's own names still there
  have I4:Inv X pins σ H' s':=inv_behind I3 f3 rfl J' (Heap.SameBut.refl _ _)
  obtain ⟨oc,es,ep,ho,hd,hr⟩:=id hn
  have above:X.s₀.heap.objs.size≤s3.heap.objs.size:=I3.sz
  have hL:s3.heap.objs.size≠X.env.locals:=Nat.ne_of_gt I3.lt
  have hfs:s3.heap.objs.size∉X.fs:=I3.nofs (Nat.le_refl _)
  have I5:Inv X (pins++[(s3.heap.objs.size,oc)]) σ H' s':=I4.pins_of fun p hp=>by
   rcases List.mem_append.mp hp with hp | hp
   · exact I4.pin p (List.mem_append_right _ hp)
   · have:p = (s3.heap.objs.size,oc):=by simpa using hp
     subst this
     exact ⟨ho,hC,hL,hfs,fun v z=>by rw [hd] at z;cases z⟩
  show wpAny _ _ (assign (.Name y py) X.env (.ref s2.heap.objs.size)) _ _ _
  refine wpAny_assign_Name (store_ok (v:=.ref s2.heap.objs.size) I5 hNd hy hv rfl (fun s5 I6=>?_) hf)
  have hp6:=I6.pin (s3.heap.objs.size,oc) (List.mem_append_right _ (List.mem_append_right _ (by simp)))
  refine ⟨m,⟨oc,es,ep,hp6.1,hd,hr⟩,fun h' hsb'=>?_⟩
  have I7:Inv X pins (σ.set i (some (.ref s2.heap.objs.size))) H' s5:=I6.unpinned
  refine ⟨_,H',I7.turned (h':=h') (t':=s5.toks) (it:=s3.heap.objs.size) (fun b o hb e=>(hsb'.2 b hb).trans e) hC hL (.inr above) (fun x c e z=>?_) (fun p hp z=>?_),q'⟩
  · obtain ⟨v,o,hoc,hdc⟩:=I3.cell x c e
    have:=Heap.lt_size hoc
    rw [z] at this
    exact absurd this (Nat.lt_irrefl _)
  · have hq:=(I3.pin p hp).1
    have:=Heap.lt_size hq
    rw [z] at this
    exact absurd this (Nat.lt_irrefl _)
 exact codeAny_compStart_list (loop _ rfl) (T.self _ _ _ _ _ st4 (loop _ rfl))
end L2
end
section
namespace PP
open PySem PySem.W PyProof.Rows
def ans {α:Type} (lt:Nat→Nat→Bool):KasT α→α
 | .ret a=>a
 | .ask i j k=>ans lt (k (lt i j))
theorem ans_bind {α β:Type} (lt:Nat→Nat→Bool) (f:α→KasT β):∀ t:KasT α,ans lt (t.bind f) = ans lt (f (ans lt t))
 | .ret a=>rfl
 | .ask i j k=>by
   show ans lt ((k (lt i j)).bind f) = _
   rw [ans_bind lt f (k (lt i j))]
   rfl
theorem ans_ask {α:Type} (lt:Nat→Nat→Bool) (i j:Nat) (k:Bool→KasT α):ans lt (.ask i j k) = ans lt (k (lt i j)):=rfl
theorem ans_ret {α:Type} (lt:Nat→Nat→Bool) (a:α):ans lt (.ret a) = a:=rfl
structure Ord (lt:Nat→Nat→Bool):Prop where
 as:∀ a b,lt a b = true→lt b a = false
 tr:∀ a b c,lt b a = false→lt c b = false→lt c a = false
section
variable {lt:Nat→Nat→Bool} (O:Ord lt)
def Up (lt:Nat→Nat→Bool) (p:Array Nat) (m:Nat):Prop:=∀ i j,i≤j→j < m→lt (p.getD j 0) (p.getD i 0) = false
def Dn' (lt:Nat→Nat→Bool) (p:Array Nat) (m:Nat):Prop:=∀ i j,i≤j→j < m→lt (p.getD i 0) (p.getD j 0) = false
include O
theorem Ord.refl (a:Nat):lt a a = false:=by
 cases h:lt a a with
 | false=>rfl
 | true=>have:=O.as a a h;rw [h] at this;cases this
theorem Up.one (p:Array Nat):Up lt p 1:=fun i j h1 h2=>by
 have e1:j = 0:=by omega
 have e2:i = 0:=by omega
 subst e1;subst e2
 exact O.refl _
theorem Up.more {p:Array Nat} {n:Nat} (h:Up lt p n) (hn:1≤n) (h2:lt (p.getD n 0) (p.getD (n - 1) 0) = false):Up lt p (n+1):=fun i j h3 h4=>by
 by_cases e:j = n
 · subst e
   by_cases e':i = j
   · subst e';exact O.refl _
   · exact O.tr _ _ _ (h i (j - 1) (by omega) (by omega)) h2
 · exact h i j h3 (by omega)
theorem Dn'.more {p:Array Nat} {n:Nat} (h:Dn' lt p n) (hn:1≤n) (h2:lt (p.getD (n - 1) 0) (p.getD n 0) = false):Dn' lt p (n+1):=fun i j h3 h4=>by
 by_cases e:j = n
 · subst e
   by_cases e':i = j
   · subst e';exact O.refl _
   · exact O.tr _ _ _ h2 (h i (j - 1) (by omega) (by omega))
 · exact h i j h3 (by omega)
theorem asc_ok (p:Array Nat):∀ (f n:Nat),1≤n→Up lt p n→n≤ans lt (kas_asc p f n)∧ans lt (kas_asc p f n)≤n+f∧Up lt p (ans lt (kas_asc p f n))∧(ans lt (kas_asc p f n) < n+f→lt (p.getD (ans lt (kas_asc p f n)) 0) (p.getD (ans lt (kas_asc p f n) - 1) 0) = true)
 | 0,n,_,h=>⟨Nat.le_refl _,Nat.le_refl _,h,fun z=>absurd z (Nat.lt_irrefl _)⟩
 | f+1,n,hn,h=>by
   unfold kas_asc
   rw [ans_ask]
   cases c:lt (p.getD n 0) (p.getD (n - 1) 0) with
   | true =>
     rw [if_pos rfl,ans_ret]
     exact ⟨Nat.le_refl _,by omega,h,fun _=>c⟩
   | false =>
     rw [if_neg Bool.false_ne_true]
     obtain ⟨a1,a2,a3,a4⟩:=asc_ok p f (n+1) (by omega) (h.more O hn c)
     exact ⟨by omega,by omega,a3,fun z=>a4 (by omega)⟩
omit O in
theorem getD_eq (p:Array Nat) (k:Nat):p.getD k 0 = (p[k]?).getD 0:=by
 simp [Array.getD_eq_getD_getElem?]
omit O in
theorem rev_get {p:Array Nat} {i j:Nat} (hj:j≤p.size) (k:Nat):(kas_rev p i j).getD k 0 = if i≤k∧k < j then p.getD (i+j - 1 - k) 0 else p.getD k 0:=by
 rw [getD_eq,kas_rev,getElem?_mirror hj ((j - i) / 2) (by omega) k]
 by_cases h:i≤k∧k < j
 · rw [if_pos h]
   by_cases h2:(i≤k∧k < i+(j - i) / 2)∨(j - (j - i) / 2≤k∧k < j)
   · rw [if_pos h2,getD_eq]
   · rw [if_neg h2,getD_eq]
     have:i+j - 1 - k = k:=by omega
     rw [this]
 · rw [if_neg h]
   by_cases h2:(i≤k∧k < i+(j - i) / 2)∨(j - (j - i) / 2≤k∧k < j)
   · exfalso;omega
   · rw [if_neg h2,getD_eq]
omit O in
theorem rev_size (p:Array Nat) (i j:Nat):(kas_rev p i j).size = p.size:=mirror_size _ _ _ _
omit O in
theorem rev_perm (p:Array Nat) (i j:Nat):(kas_rev p i j).Perm p:=mirror_perm _ _ _ _
theorem Dn'.rev {p:Array Nat} {n:Nat} (h:Dn' lt p n) (hn:n≤p.size):Up lt (kas_rev p 0 n) n:=fun i j h1 h2=>by
 rw [rev_get hn,rev_get hn,if_pos ⟨by omega,h2⟩,if_pos ⟨by omega,by omega⟩]
 exact h _ _ (by omega) (by omega)
def Eqv (lt:Nat→Nat→Bool) (p:Array Nat) (a b:Nat):Prop:=∀ i j,a≤i→i < b→a≤j→j < b→lt (p.getD i 0) (p.getD j 0) = false
theorem Dn'.turn {p:Array Nat} {n a:Nat} (h:Dn' lt p n) (hn:n≤p.size) (e:Eqv lt p a n):Dn' lt (kas_rev p a n) n:=fun i j h1 h2=>by
 rw [rev_get hn,rev_get hn]
 by_cases hi:a≤i
 · rw [if_pos ⟨hi,by omega⟩,if_pos ⟨by omega,h2⟩]
   exact e _ _ (by omega) (by omega) (by omega) (by omega)
 · rw [if_neg (by omega)]
   by_cases hj:a≤j
   · rw [if_pos ⟨hj,h2⟩]
     exact h _ _ (by omega) (by omega)
   · rw [if_neg (by omega)]
     exact h _ _ h1 h2
theorem desc_ok:∀ (f:Nat) (p:Array Nat) (n q:Nat),1≤n→q < n→n+f≤p.size→Dn' lt p n→Eqv lt p (n - (q+1)) n →
 let r:=ans lt (kas_desc f p n q)
 r.1.size = p.size∧r.1.Perm p∧n≤r.2.1∧r.2.1≤n+f∧r.2.2 < r.2.1∧Dn' lt r.1 r.2.1∧Eqv lt r.1 (r.2.1 - (r.2.2+1)) r.2.1
 | 0,p,n,q,hn,hq,hz,h,e=>⟨rfl,Array.Perm.refl _,Nat.le_refl _,Nat.le_refl _,hq,h,e⟩
 | f+1,p,n,q,hn,hq,hz,h,e=>by
   unfold kas_desc
   rw [ans_ask]
   cases c:lt (p.getD n 0) (p.getD (n - 1) 0) with
   | true =>
     rw [if_pos rfl]
     have c':=O.as _ _ c
     have one:∀ p':Array Nat,Eqv lt p' (n+1 - (0+1)) (n+1):=fun p' i j h1 h2 h3 h4=>by
      have e1:i = j:=by omega
      rw [e1];exact O.refl _
     by_cases hq0:q > 0
     · rw [if_pos hq0]
       have hT:Dn' lt (kas_rev p (n - (q+1)) n) (n+1):=by
        refine (h.turn O (by omega) e).more O hn ?_
        rw [rev_get (by omega),rev_get (by omega),if_pos ⟨by omega,by omega⟩,if_neg (by omega)]
        exact O.tr _ _ _ c' (e _ _ (by omega) (by omega) (by omega) (by omega))
       obtain ⟨a1,a2,a3,a4,a5,a6,a7⟩:=desc_ok f (kas_rev p (n - (q+1)) n) (n+1) 0 (by omega) (by omega) (by rw [rev_size];omega) hT (one _)
       exact ⟨by rw [a1,rev_size],a2.trans (rev_perm _ _ _),by omega,by omega,a5,a6,a7⟩
     · rw [if_neg hq0]
       obtain ⟨a1,a2,a3,a4,a5,a6,a7⟩:=desc_ok f p (n+1) 0 (by omega) (by omega) (by omega) (h.more O hn c') (one _)
       exact ⟨a1,a2,by omega,by omega,a5,a6,a7⟩
   | false =>
     rw [if_neg Bool.false_ne_true,ans_ask]
     cases d:lt (p.getD (n - 1) 0) (p.getD n 0) with
     | true =>
       rw [if_pos rfl,ans_ret]
       exact ⟨rfl,Array.Perm.refl _,Nat.le_refl _,Nat.le_add_right _ _,hq,h,e⟩
     | false =>
       rw [if_neg Bool.false_ne_true]
       have hE:Eqv lt p (n+1 - (q+1+1)) (n+1):=fun i j h1 h2 h3 h4=>by
        by_cases ei:i = n
        · subst ei
          by_cases ej:j = i
          · subst ej;exact O.refl _
          · exact O.tr _ _ _ (e _ _ (by omega) (by omega) (by omega) (by omega)) c
        · by_cases ej:j = n
          · subst ej
            exact O.tr _ _ _ d (e _ _ (by omega) (by omega) (by omega) (by omega))
          · exact e _ _ (by omega) (by omega) (by omega) (by omega)
       obtain ⟨a1,a2,a3,a4,a5,a6,a7⟩:=desc_ok f p (n+1) (q+1) (by omega) (by omega) (by omega) (h.more O hn d) hE
       exact ⟨a1,a2,by omega,by omega,a5,a6,a7⟩
theorem tail3_ok (p:Array Nat) (n m:Nat) (hn:1≤n) (hm:n≤m) (hz:m≤p.size) (h:Dn' lt p n) :
 let r:=ans lt (kas_tail3 n m p)
 r.2.size = p.size∧r.2.Perm p∧1≤r.1∧r.1≤m∧Up lt r.2 r.1:=by
 unfold kas_tail3
 rw [ans_bind,ans_ret]
 obtain ⟨a1,a2,a3,_⟩:=asc_ok O (kas_rev p 0 n) (m - n) n hn (h.rev O (by omega))
 exact ⟨rev_size _ _ _,rev_perm _ _ _,by omega,by omega,a3⟩
theorem descPart_ok (p:Array Nat) (n m:Nat) (hn:1≤n) (hm:n < m) (hz:m≤p.size) (h:Dn' lt p (n+1)) :
 let r:=ans lt (kas_descPart n m p)
 r.2.size = p.size∧r.2.Perm p∧1≤r.1∧r.1≤m∧Up lt r.2 r.1:=by
 unfold kas_descPart
 rw [ans_bind]
 have one:Eqv lt p (n+1 - (0+1)) (n+1):=fun i j h1 h2 h3 h4=>by
  have e1:i = j:=by omega
  rw [e1];exact O.refl _
 obtain ⟨a1,a2,a3,a4,a5,a6,a7⟩:=desc_ok O (m - (n+1)) p (n+1) 0 (by omega) (by omega) (by omega) h one
 generalize ans lt (kas_desc (m - (n+1)) p (n+1) 0) = r at a1 a2 a3 a4 a5 a6 a7
 by_cases hq:r.2.2 > 0
 · rw [if_pos hq]
   obtain ⟨b1,b2,b3,b4,b5⟩:=tail3_ok O (kas_rev r.1 (r.2.1 - (r.2.2+1)) r.2.1) r.2.1 m (by omega) (by omega) (by rw [rev_size];omega) (a6.turn O (by omega) a7)
   exact ⟨by rw [b1,rev_size,a1],(b2.trans (rev_perm _ _ _)).trans a2,b3,b4,b5⟩
 · rw [if_neg hq]
   obtain ⟨b1,b2,b3,b4,b5⟩:=tail3_ok O r.1 r.2.1 m (by omega) (by omega) (by omega) a6
   exact ⟨by rw [b1,a1],b2.trans a2,b3,b4,b5⟩
theorem count_ok (p:Array Nat) (m:Nat) (hm:1≤m) (hz:m≤p.size) :
 let r:=ans lt (kas_count m p)
 r.2.size = p.size∧r.2.Perm p∧1≤r.1∧r.1≤m∧Up lt r.2 r.1:=by
 unfold kas_count
 rw [ans_bind]
 obtain ⟨a1,a2,a3,a4⟩:=asc_ok O p (m - 1) 1 (Nat.le_refl _) (Up.one O p)
 generalize ans lt (kas_asc p (m - 1) 1) = n at a1 a2 a3 a4
 by_cases e:(n == m) = true
 · rw [if_pos e,ans_ret]
   exact ⟨rfl,Array.Perm.refl _,a1,by omega,a3⟩
 · rw [if_neg e]
   have ne:n≠m:=fun z=>e (by rw [z];simp)
   have c:=a4 (by omega)
   by_cases h1:n > 1
   · rw [if_pos h1,ans_ask]
     cases d:lt (p.getD 0 0) (p.getD (n - 1) 0) with
     | true =>
       rw [if_pos rfl,ans_ret]
       exact ⟨rfl,Array.Perm.refl _,a1,by omega,a3⟩
     | false =>
       rw [if_neg Bool.false_ne_true]
       have hE:Eqv lt p 0 n:=fun i j _ hi _ hj=>by
        have x1:lt (p.getD 0 0) (p.getD j 0) = false:=O.tr _ _ _ (a3 j (n - 1) (by omega) (by omega)) d
        exact O.tr _ _ _ x1 (a3 0 i (by omega) hi)
       have hD:Dn' lt (kas_rev p 0 n) (n+1):=by
        refine (Dn'.turn O (p:=p) (n:=n) (a:=0) (fun i j hi hj=>hE i j (by omega) (by omega) (by omega) (by omega)) (by omega) hE).more O a1 ?_
        rw [rev_get (by omega),rev_get (by omega),if_pos ⟨by omega,by omega⟩,if_neg (by omega)]
        exact O.tr _ _ _ (O.as _ _ c) (hE _ _ (by omega) (by omega) (by omega) (by omega))
       obtain ⟨b1,b2,b3,b4,b5⟩:=descPart_ok O (kas_rev p 0 n) n m a1 (by omega) (by rw [rev_size];omega) hD
       exact ⟨by rw [b1,rev_size],b2.trans (rev_perm _ _ _),b3,b4,b5⟩
   · rw [if_neg h1]
     have e1:n = 1:=by omega
     subst e1
     have hD:Dn' lt p (1+1):=by
      refine Dn'.more O (n:=1) (fun i j h1 h2=>?_) (Nat.le_refl _) (O.as _ _ c)
      have e1:i = j:=by omega
      rw [e1];exact O.refl _
     exact descPart_ok O p 1 m (Nat.le_refl _) (by omega) hz hD
theorem place_ok (p:Array Nat) (k:Nat) (h:Up lt p k):∀ (f l r:Nat),l≤r→r≤k→r - l≤f→(∀ i,i < l→lt (p.getD k 0) (p.getD i 0) = false)→(∀ i,r≤i→i < k→lt (p.getD i 0) (p.getD k 0) = false) →
 let x:=ans lt (kas_place p k f l r)
 x≤k∧(∀ i,i < x→lt (p.getD k 0) (p.getD i 0) = false)∧∀ i,x≤i→i < k→lt (p.getD i 0) (p.getD k 0) = false
 | 0,l,r,h1,h2,h3,h4,h5=>by
   have e:l = r:=by omega
   subst e
   exact ⟨h2,h4,h5⟩
 | f+1,l,r,h1,h2,h3,h4,h5=>by
   unfold kas_place
   by_cases hlr:l ≥ r
   · rw [if_pos hlr,ans_ret]
     have e:l = r:=by omega
     subst e
     exact ⟨h2,h4,h5⟩
   · rw [if_neg hlr,ans_ask]
     cases c:lt (p.getD k 0) (p.getD ((l+r) / 2) 0) with
     | true =>
       rw [if_pos rfl]
       refine place_ok p k h f l ((l+r) / 2) (by omega) (by omega) (by omega) h4 fun i hi hk=>?_
       exact O.tr _ _ _ (O.as _ _ c) (h _ i (by omega) hk)
     | false =>
       rw [if_neg Bool.false_ne_true]
       refine place_ok p k h f ((l+r) / 2+1) r (by omega) h2 (by omega) (fun i hi=>?_) h5
       exact O.tr _ _ _ (h i ((l+r) / 2) (by omega) (by omega)) c
theorem bin_ok:∀ (f:Nat) (p:Array Nat) (k:Nat),k+f≤p.size→Up lt p k →
 let r:=ans lt (kas_bin f p k)
 r.size = p.size∧r.Perm p∧Up lt r (k+f)
 | 0,p,k,_,h=>⟨rfl,Array.Perm.refl _,h⟩
 | f+1,p,k,hz,h=>by
   unfold kas_bin
   rw [ans_bind]
   obtain ⟨a1,a2,a3⟩:=place_ok O p k h k 0 k (by omega) (by omega) (by omega) (fun i hi=>by omega) (fun i h1 h2=>by omega)
   generalize ans lt (kas_place p k k 0 k) = l at a1 a2 a3
   have bg:∀ t,(bubble p k (k - l)).getD t 0 = if t = l then p.getD k 0 else if l < t∧t≤k then p.getD (t - 1) 0 else p.getD t 0:=fun t=>by
    rw [getD_eq,getElem?_bubble (by omega) (k - l) (by omega) t]
    have e1:k - (k - l) = l:=by omega
    rw [e1]
    by_cases h1:t = l
    · rw [if_pos h1,if_pos h1,getD_eq]
    · rw [if_neg h1,if_neg h1]
      by_cases h2:l < t∧t≤k
      · rw [if_pos h2,if_pos h2,getD_eq]
      · rw [if_neg h2,if_neg h2,getD_eq]
   have hU:Up lt (bubble p k (k - l)) (k+1):=fun i j h1 h2=>by
    rw [bg i,bg j]
    by_cases i1:i = l
    · rw [if_pos i1]
      by_cases j1:j = l
      · rw [if_pos j1];exact O.refl _
      · rw [if_neg j1,if_pos ⟨by omega,by omega⟩]
        exact a3 _ (by omega) (by omega)
    · rw [if_neg i1]
      by_cases i2:l < i∧i≤k
      · rw [if_pos i2,if_neg (by omega),if_pos ⟨by omega,by omega⟩]
        exact h _ _ (by omega) (by omega)
      · rw [if_neg i2]
        by_cases j1:j = l
        · rw [if_pos j1]
          exact a2 i (by omega)
        · rw [if_neg j1]
          by_cases j2:l < j∧j≤k
          · rw [if_pos j2]
            exact h _ _ (by omega) (by omega)
          · rw [if_neg j2]
            exact h _ _ h1 (by omega)
   obtain ⟨b1,b2,b3⟩:=bin_ok f (bubble p k (k - l)) (k+1) (by rw [bubble_size];omega) hU
   exact ⟨by rw [b1,bubble_size],b2.trans (bubble_perm _ _ _),by rw [show k+(f+1) = k+1+f by omega];exact b3⟩
theorem sort_ok (n:Nat) (hn:1≤n) :
 let r:=ans lt (kas_sort n)
 r.size = n∧r.Perm (List.toArray (List.range n))∧Up lt r n:=by
 unfold kas_sort
 rw [ans_bind]
 have hs:(List.toArray (List.range n)).size = n:=by simp
 obtain ⟨a1,a2,a3,a4,a5⟩:=count_ok O (List.toArray (List.range n)) n hn (by omega)
 generalize ans lt (kas_count n (List.toArray (List.range n))) = r at a1 a2 a3 a4 a5
 by_cases h:r.1 < n
 · rw [if_pos h]
   have e:max r.1 1 = r.1:=by omega
   rw [e]
   obtain ⟨b1,b2,b3⟩:=bin_ok O (n - r.1) r.2 r.1 (by omega) a5
   have e2:r.1+(n - r.1) = n:=by omega
   rw [e2] at b3
   exact ⟨by omega,b2.trans a2,b3⟩
 · rw [if_neg h,ans_ret]
   have e:r.1 = n:=by omega
   exact ⟨by omega,a2,by rw [← e];exact a5⟩
end
end PP
end
section
namespace PP
open PySem
inductive D where
 | non | bl (b:Bool) | int (i:Int) | str (x:Str) | lst (ds:List D) | tup (ds:List D) | fn (k:Nat) (ds:List D)
 deriving Inhabited
mutual
def eqD:D→D→Bool
 | .non,.non=>true
 | .bl a,.bl b=>a == b
 | .bl a,.int b=>(if a then 1 else 0) == b
 | .int a,.bl b=>a == (if b then 1 else 0)
 | .int a,.int b=>a == b
 | .str a,.str b=>a == b
 | .lst a,.lst b=>eqDs a b
 | .tup a,.tup b=>eqDs a b
 | _,_=>false
def eqDs:List D→List D→Bool
 | [],[]=>true
 | x::xs,y::ys=>eqD x y && eqDs xs ys
 | _,_=>false
end
mutual
def ltD:D→D→Option Bool
 | .int a,.int b=>some (decide (a < b))
 | .str a,.str b=>some (decide (a.cps.toList < b.cps.toList))
 | .tup a,.tup b=>ltDs a b
 | _,_=>none
def ltDs:List D→List D→Option Bool
 | [],[]=>some false
 | [],_::_=>some true
 | _::_,[]=>some false
 | x::xs,y::ys=>if eqD x y = true then ltDs xs ys else ltD x y
end
mutual
def dep:D→Nat
 | .lst ds | .tup ds=>depL ds+1
 | .fn _ _=>100000
 | _=>0
def depL:List D→Nat
 | []=>0
 | x::xs=>max (dep x) (depL xs)
end
mutual
def lf:D→Bool
 | .lst _=>false
 | .fn _ _=>false
 | .tup ds=>lfL ds
 | _=>true
def lfL:List D→Bool
 | []=>true
 | x::xs=>lf x && lfL xs
end
def flat:D→Bool
 | .non | .bl _ | .int _ | .str _=>true
 | _=>false
def tv:D→Option Bool
 | .non=>some false
 | .bl b=>some b
 | .int i=>some (i != 0)
 | .str x=>if x.length≤sizeLine then some ((x.length:Int) != 0) else none
 | .lst ds | .tup ds=>some (!ds.isEmpty)
 | .fn _ _=>none
inductive Op where
 | add | sub | mul | mod | fdiv | pow
 deriving DecidableEq
inductive Cop where
 | lt | gt | eq | ne | isin | notin
 deriving DecidableEq
inductive Blt where
 | len | min | max | toInt | toStr | toTup | toLst | isInt | isBool | isList
 deriving DecidableEq
def mulOk (i j:Int):Bool:=(decide (-(2 ^ 64) < i) && decide (i < 2 ^ 64)) || (decide (-(2 ^ 64) < j) && decide (j < 2 ^ 64))
def repS (x:Str) (n:Nat):Str:=⟨(List.replicate n x.cps.toList).flatten.toArray⟩
def addD:D→D→Option D
 | .int a,.int b=>some (.int (a+b))
 | .str a,.str b=>if a.length+b.length≤sizeLine then some (.str (a++b)) else none
 | .tup a,.tup b=>if a≠[]∧a.length+b.length≤sizeLine then some (.tup (a++b)) else none
 | .lst a,.lst b=>if a.length+b.length≤sizeLine then some (.lst (a++b)) else none
 | _,_=>none
def subD:D→D→Option D
 | .int a,.int b=>some (.int (a - b))
 | _,_=>none
def mulD:D→D→Option D
 | .int a,.int b=>if mulOk a b then some (.int (a * b)) else none
 | .str a,.int b=>if 0≤b∧b≤1000∧a.length≤1000 then some (.str (repS a b.toNat)) else none
 | _,_=>none
def modD:D→D→Option D
 | .int a,.int b=>if 0 < b then some (.int (a % b)) else none
 | _,_=>none
def fdivD:D→D→Option D
 | .int a,.int b=>if 0 < b∧b < 1073741824 then some (.int (a / b)) else none
 | _,_=>none
def powD:D→D→Option D
 | .int a,.int b=>if 0≤b∧b≤1000000∧a.natAbs < 2 ^ 64 then some (.int (a ^ b.toNat)) else none
 | _,_=>none
def opD:Op→D→D→Option D
 | .add=>addD | .sub=>subD | .mul=>mulD | .mod=>modD | .fdiv=>fdivD | .pow=>powD
def kin:D→D→Bool
 | .bl _,.bl _ | .int _,.int _ | .str _,.str _ | .lst _,.lst _ | .tup _,.tup _=>true
 | _,_=>false
def depOk (a b:D):Bool:=kin a b && decide (min (dep a) (dep b)≤150)
def ordD (p:Int→Int→Bool):D→D→Option Bool
 | .int a,.int b=>some (p a b)
 | _,_=>none
def occS (y x:Str):Bool:=!(Builtin.Str.occurrences y x 0 y.length 1).isEmpty
def inD (a:D):D→Option Bool
 | .lst ds=>if dep a≤150 then some (ds.any fun y=>eqD y a) else none
 | .tup ds=>if dep a≤150 then some (ds.any fun y=>eqD y a) else none
 | .str y=>match a with
   | .str x=>some (occS y x)
   | _=>none
 | _=>none
def ltOk (a b:D):Option Bool:=if min (dep a) (dep b)≤150 then ltD a b else none
def ltIx (ds:List D) (i j:Nat):Bool:=(ltOk (ds.getD i .non) (ds.getD j .non)).getD false
def sortL (ds:List D):List D:=if ds.length < 2 then ds else (ans (ltIx ds) (PySem.W.kas_sort ds.length)).toList.map fun i=>ds.getD i .non
def headK:D→Nat
 | .str _=>1
 | .int _=>2
 | .tup (.str _::_)=>3
 | .tup (.int _::_)=>4
 | _=>0
def sortable (ds:List D):Bool:=decide (ds.length < 64) && (ds.all fun x=>headK x != 0 && headK x == headK (ds.getD 0 .non)) && ds.all fun x=>ds.all fun y=>(ltOk x y).isSome
mutual
def hb:D→Bool
 | .str _ | .int _=>true
 | .tup ds=>hbL ds
 | _=>false
def hbL:List D→Bool
 | []=>true
 | d::ds=>hb d && hbL ds
end
def hok:D→Bool
 | .tup (.str x::ds)=>hbL ds && decide (depL ds≤7)
 | _=>false
def addU (ds:List D) (d:D):List D:=if ds.any (fun y=>eqD y d) then ds else ds++[d]
def dedD (ds:List D):List D:=ds.foldl addU []
def ltB (a b:D):Bool:=(ltOk a b).getD false
def tot (ds:List D):Bool:=ds.all fun a=>ds.all fun b=>!(ltB a b && ltB b a) && (ltB a b || ltB b a || eqD a b) && ds.all fun c=>ltB b a || ltB c b || !ltB c a
def cmpD:Cop→D→D→Option Bool
 | .lt,x,y=>ltOk x y
 | .gt,x,y=>ordD (fun a b=>decide (b < a)) x y
 | .eq,a,b=>if depOk a b then some (eqD a b) else none
 | .ne,a,b=>if depOk a b then some (!eqD a b) else none
 | .isin,a,y=>inD a y
 | .notin,a,y=>(inD a y).map (!·)
def ixD:D→D→Option D
 | .lst ds,.int i=>L2.atI ds i
 | .tup ds,.int i=>L2.atI ds i
 | .str x,.int i=>if x.length≤sizeLine then (L2.atI x.cps.toList i).map fun c=>.str ⟨#[c]⟩ else none
 | _,_=>none
def cutD (ds:List D) (lo hi:Option Int):List D:=(ds.drop (HT.sIx ds.length 0 lo)).take (HT.sIx ds.length ds.length hi - HT.sIx ds.length 0 lo)
def slD:D→Option Int→Option Int→Option D
 | .lst ds,lo,hi=>some (.lst (cutD ds lo hi))
 | .tup ds,lo,hi=>if HT.sIx ds.length 0 lo = 0∧HT.sIx ds.length ds.length hi = ds.length then none else some (.tup (cutD ds lo hi))
 | _,_,_=>none
def intsD:List D→Option (List Int)
 | []=>some []
 | .int i::r=>(intsD r).map (i::·)
 | _=>none
def lenD:List D→Option D
 | [.str x]=>if x.length≤sizeLine then some (.int x.length) else none
 | [.lst ds]=>some (.int ds.length)
 | [.tup ds]=>some (.int ds.length)
 | _=>none
def minD:List D→Option D
 | [.int i,.int j]=>some (.int (if j < i then j else i))
 | _=>none
def topI:List Int→Int
 | []=>0
 | n::ns=>ns.foldl (fun a b=>if b > a then b else a) n
def maxD:List D→Option D
 | [.int i,.int j]=>some (.int (if j > i then j else i))
 | [.lst ds]=>(intsD ds).bind fun ns=>if ns = [] then none else some (.int (topI ns))
 | _=>none
def toIntD:List D→Option D
 | [.int i]=>some (.int i)
 | [.bl b]=>some (.int (if b then 1 else 0))
 | [.str x]=>if x.length≤640 then (PySem.intText? x).map .int else none
 | _=>none
def toStrD:List D→Option D
 | [.int i]=>if i.natAbs.log2 < 1920 then some (.str (toString i)) else none
 | _=>none
def toTupD:List D→Option D
 | [.lst ds]=>some (.tup ds)
 | [.tup ds]=>some (.tup ds)
 | _=>none
def toLstD:List D→Option D
 | [.lst ds]=>some (.lst ds)
 | [.tup ds]=>some (.lst ds)
 | _=>none
def isIntD:List D→Option D
 | [.int _]=>some (.bl true)
 | [.bl _]=>some (.bl true)
 | [.fn _ _]=>none
 | [_]=>some (.bl false)
 | _=>none
def isBoolD:List D→Option D
 | [.bl _]=>some (.bl true)
 | [.fn _ _]=>none
 | [_]=>some (.bl false)
 | _=>none
def isListD:List D→Option D
 | [.lst _]=>some (.bl true)
 | [.fn _ _]=>none
 | [_]=>some (.bl false)
 | _=>none
def bltD:Blt→List D→Option D
 | .len=>lenD | .min=>minD | .max=>maxD | .toInt=>toIntD | .toStr=>toStrD | .toTup=>toTupD | .toLst=>toLstD
 | .isInt=>isIntD | .isBool=>isBoolD | .isList=>isListD
inductive Sl where
 | no | val (d:D) | own (ds:List D) | fnc (k:Nat) (cs:List D)
 deriving Inhabited
abbrev Loc:=List Sl
inductive Tg where
 | nm (i:Nat)
 | tp (is:List Nat)
 | pr (i:Nat) (is:List Nat)
mutual
inductive E where
 | var (i:Nat)
 | pk (i:Nat)
 | glob (g:Nat)
 | int (i:Int) | bl (b:Bool) | non | str (x:Str)
 | bin (op:Op) (a b:E)
 | cmp (op:Cop) (a b:E)
 | and (a b:E) | or (a b:E) | not (a:E)
 | ite (c a b:E)
 | tup (es:Es) | lst (es:Es)
 | ix (a b:E)
 | sl (a:E) (lo hi:Eo)
 | call (f:Nat) (es:Es)
 | blt (f:Blt) (es:Es)
 | pop (i:Nat)
 | callv (i:Nat) (es:Es)
 | callF (f:Nat) (es:Es) (i:Nat)
 | isdig (i:Nat)
 | ssd (a:E)
 | comp (k:Nat) (tg:Tg) (src:It) (ifs:Eo) (elt:E)
inductive Es where
 | nil | cons (e:E) (es:Es)
inductive Eo where
 | no | yes (e:E)
inductive It where
 | rng (e:E) | sq (e:E)
end
def get (δ:Loc) (i:Nat):Option D:=match δ[i]? with
 | some (.val d)=>some d
 | some (.own ds)=>some (.lst ds)
 | _=>none
def demote (δ:Loc) (i:Nat):Loc:=match δ[i]? with
 | some (.own ds)=>δ.set i (.val (.lst ds))
 | _=>δ
def setTg (δ:Loc):Tg→D→Option Loc
 | .nm i,d=>if i < δ.length then some (δ.set i (.val d)) else none
 | .tp is,.tup ds=>if is.length = ds.length∧is.all (· < δ.length) = true then some ((is.zip ds).foldl (fun δ p=>δ.set p.1 (.val p.2)) δ) else none
 | .tp is,.lst ds=>if is.length = ds.length∧is.all (· < δ.length) = true then some ((is.zip ds).foldl (fun δ p=>δ.set p.1 (.val p.2)) δ) else none
 | .pr i is,.tup [a,.tup ds]=>if i < δ.length∧is.length = ds.length∧is.all (· < δ.length) = true then some ((is.zip ds).foldl (fun δ p=>δ.set p.1 (.val p.2)) (δ.set i (.val a))) else none
 | _,_=>none
def items:D→Option (List D)
 | .lst ds=>some ds
 | .tup ds=>some ds
 | .str x=>if x.length≤sizeLine then some (x.cps.toList.map fun c=>.str ⟨#[c]⟩) else none
 | _=>none
def rngD (lo:Int) (n:Nat):List D:=(List.range n).map fun (i:Nat)=>D.int (lo+i)
def compL (f:D→Loc→Option (Option D × Loc)):List D→Loc→Option (List D × Loc)
 | [],δ=>some ([],δ)
 | x::xs,δ=>do
   let (o,δ1) ← f x δ
   let (ys,δ2) ← compL f xs δ1
   return (match o with | some y=>y::ys | none=>ys,δ2)
def lfO:Option D→Option D
 | some r=>if lf r = true then some r else none
 | none=>none
def capsD (δ:Loc):List Nat→Option (List D)
 | []=>some []
 | i::r=>match get δ i with
   | some d=>if flat d = true then (capsD δ r).map (d::·) else none
   | none=>none
structure Cl where
 call:Nat→List D→Option D
 gl:List D
 hf:Nat→Bool
section
variable (cx:Cl)
mutual
def evE:E→Loc→Option (D × Loc)
 | .var i,δ=>do return (← get δ i,demote δ i)
 | .pk i,δ=>do return (← get δ i,δ)
 | .glob g,δ=>do return (← cx.gl[g]?,δ)
 | .int i,δ=>some (.int i,δ)
 | .bl b,δ=>some (.bl b,δ)
 | .non,δ=>some (.non,δ)
 | .str x,δ=>some (.str x,δ)
 | .bin op a b,δ=>do
   let (x,δ1) ← evE a δ
   let (y,δ2) ← evE b δ1
   return (← opD op x y,δ2)
 | .cmp op a b,δ=>do
   let (x,δ1) ← evE a δ
   let (y,δ2) ← evE b δ1
   return (.bl (← cmpD op x y),δ2)
 | .and a b,δ=>do
   match ← evE a δ with
   | (.bl true,δ1)=>evE b δ1
   | (.bl false,δ1)=>some (.bl false,δ1)
   | _=>none
 | .or a b,δ=>do
   match ← evE a δ with
   | (.bl true,δ1)=>some (.bl true,δ1)
   | (.bl false,δ1)=>evE b δ1
   | _=>none
 | .not a,δ=>do
   match ← evE a δ with
   | (.bl b,δ1)=>some (.bl (!b),δ1)
   | _=>none
 | .ssd a,δ=>do
   match ← evE a δ with
   | (.lst ds,δ1)=>if (ds.all hok && sortable (dedD ds) && tot (dedD ds)) = true then some (.lst (sortL (dedD ds)),δ1) else none
   | _=>none
 | .ite c a b,δ=>do
   let (k,δ1) ← evT c δ
   if k then evE a δ1 else evE b δ1
 | .tup es,δ=>do
   let (ds,δ1) ← evEs es δ
   if ds.length≤sizeLine then return (.tup ds,δ1) else none
 | .lst es,δ=>do
   let (ds,δ1) ← evEs es δ
   if ds.length≤sizeLine then return (.lst ds,δ1) else none
 | .ix a b,δ=>do
   let (x,δ1) ← evE a δ
   let (y,δ2) ← evE b δ1
   return (← ixD x y,δ2)
 | .sl a lo hi,δ=>do
   let (x,δ1) ← evE a δ
   let (l,δ2) ← evO lo δ1
   let (h,δ3) ← evO hi δ2
   return (← slD x l h,δ3)
 | .call f es,δ=>do
   let (ds,δ1) ← evEs es δ
   return (← cx.call f ds,δ1)
 | .blt f es,δ=>do
   let (ds,δ1) ← evEs es δ
   return (← bltD f ds,δ1)
 | .callv i es,δ=>do
   let (ds,δ1) ← evEs es δ
   match δ[i]? with
   | some (.fnc k cs)=>if lfL ds = true then (lfO (cx.call k (ds++cs))).map fun r=>(r,δ1) else none
   | _=>none
 | .callF f es i,δ=>do
   let (ds,δ1) ← evEs es δ
   match δ1[i]? with
   | some (.fnc k cs)=>if cx.hf f = true then (cx.call f (ds++[.fn k cs])).map fun r=>(r,δ1) else none
   | _=>none
 | .pop i,δ=>do
   match δ[i]? with
   | some (.own ds)=>match ds.getLast? with
     | some d=>some (d,δ.set i (.own ds.dropLast))
     | none=>none
   | _=>none
 | .isdig i,δ=>do
   match ← get δ i with
   | .str x=>some (.bl (decide (x.length > 0) && x.cps.all Unicode.isDigit),δ)
   | _=>none
 | .comp k tg src ifs elt,δ=>do
   let (ds,δ1) ← evI src δ
   let (ys,δ2) ← compL (fun x δ0=>do
    let δ2 ← setTg (δ0++List.replicate k .no) tg x
    let (b,δ3) ← evG ifs δ2
    if b then do
     let (y,δ4) ← evE elt δ3
     return (some y,δ4.take δ0.length)
    else return (none,δ3.take δ0.length)) ds δ1
   if ys.length≤sizeLine then return (.lst ys,δ2) else none
def evT:E→Loc→Option (Bool × Loc)
 | .and a b,δ=>do
   let (k,δ1) ← evT a δ
   if k then evT b δ1 else some (false,δ1)
 | .or a b,δ=>do
   let (k,δ1) ← evT a δ
   if k then some (true,δ1) else evT b δ1
 | .not a,δ=>do
   let (k,δ1) ← evT a δ
   return (!k,δ1)
 | .cmp op a b,δ=>do
   let (x,δ1) ← evE a δ
   let (y,δ2) ← evE b δ1
   return (← cmpD op x y,δ2)
 | .var i,δ=>do
   let d ← get δ i
   return (← tv d,δ)
 | .pk i,δ=>do
   let d ← get δ i
   return (← tv d,δ)
 | .call f es,δ=>do
   let (ds,δ1) ← evEs es δ
   let d ← cx.call f ds
   return (← tv d,δ1)
 | .blt f es,δ=>do
   let (ds,δ1) ← evEs es δ
   let d ← bltD f ds
   return (← tv d,δ1)
 | _,_=>none
def evEs:Es→Loc→Option (List D × Loc)
 | .nil,δ=>some ([],δ)
 | .cons e es,δ=>do
   let (d,δ1) ← evE e δ
   let (ds,δ2) ← evEs es δ1
   return (d::ds,δ2)
def evO:Eo→Loc→Option (Option Int × Loc)
 | .no,δ=>some (none,δ)
 | .yes e,δ=>do
   match ← evE e δ with
   | (.int i,δ1)=>some (some i,δ1)
   | _=>none
def evG:Eo→Loc→Option (Bool × Loc)
 | .no,δ=>some (true,δ)
 | .yes e,δ=>evT e δ
def evI:It→Loc→Option (List D × Loc)
 | .rng e,δ=>do
   match ← evE e δ with
   | (.int j,δ1)=>if -(2 ^ 62)≤j∧j < 2 ^ 62 then some (rngD 0 j.toNat,δ1) else none
   | _=>none
 | .sq e,δ=>do
   let (d,δ1) ← evE e δ
   return (← items d,δ1)
end
end
mutual
inductive S where
 | asg (tg:Tg) (e:E)
 | new (i:Nat) (e:E)
 | cmp (own:Bool) (i:Nat) (e:E)
 | aug (i:Nat) (op:Op) (e:E)
 | ret (e:E) | retN
 | retL (f:Nat) (es:Es) (k:Nat) (caps:List Nat)
 | ifs (c:E) (a b:Ss)
 | for_ (tg:Tg) (src:It) (body:Ss)
 | while_ (c:E) (body:Ss)
 | append (i:Nat) (e:E)
 | extend (i:Nat) (e:E)
 | setix (i:Nat) (j e:E)
 | pass | brk | cont
inductive Ss where
 | nil | cons (s:S) (ss:Ss)
end
inductive Out where
 | nx (δ:Loc) | rt (d:D) (δ:Loc) | bk (δ:Loc) | ct (δ:Loc) | ro (ds:List D) (δ:Loc)
def forL (f:D→Loc→Option Out):List D→Loc→Option Out
 | [],δ=>some (.nx δ)
 | x::xs,δ=>match f x δ with
   | some (.nx δ1)=>forL f xs δ1
   | some (.ct δ1)=>forL f xs δ1
   | some (.bk δ1)=>some (.nx δ1)
   | some (.rt d δ1)=>some (.rt d δ1)
   | some (.ro ds δ1)=>some (.ro ds δ1)
   | none=>none
def whileL (c:Loc→Option (Bool × Loc)) (f:Loc→Option Out):Nat→Loc→Option Out
 | 0,_=>none
 | n+1,δ=>match c δ with
   | some (true,δ1)=>match f δ1 with
     | some (.nx δ2)=>whileL c f n δ2
     | some (.ct δ2)=>whileL c f n δ2
     | some (.bk δ2)=>some (.nx δ2)
     | some (.rt d δ2)=>some (.rt d δ2)
     | some (.ro ds δ2)=>some (.ro ds δ2)
     | none=>none
   | some (false,δ1)=>some (.nx δ1)
   | none=>none
def own0:Nat:=1000000
section
variable (cx:Cl)
mutual
def evS:S→Loc→Option Out
 | .asg tg e,δ=>do
   let (d,δ1) ← evE cx e δ
   return .nx (← setTg δ1 tg d)
 | .new i e,δ=>do
   match ← evE cx e δ with
   | (.lst ds,δ1)=>if i < δ1.length then some (.nx (δ1.set i (.own ds))) else none
   | _=>none
 | .cmp own i e,δ=>do
   match ← evE cx e δ with
   | (.lst ds,δ1)=>if i < δ1.length then some (.nx (δ1.set i (if own then .own ds else .val (.lst ds)))) else none
   | _=>none
 | .aug i op e,δ=>do
   match δ[i]? with
   | some (.val x)=>do
     let (y,δ1) ← evE cx e δ
     match op,x,y with
     | .add,.int a,.int b=>some (.nx (δ1.set i (.val (.int (a+b)))))
     | .sub,.int a,.int b=>some (.nx (δ1.set i (.val (.int (a - b)))))
     | _,_,_=>none
   | _=>none
 | .ret e,δ=>do
   let (d,δ1) ← evE cx e δ
   return .rt d δ1
 | .retN,δ=>some (.rt .non δ)
 | .retL f es k caps,δ=>do
   let (ds,δ1) ← evEs cx es δ
   let cs ← capsD δ1 caps
   if cx.hf f = true then (lfO (cx.call f (ds++[.fn k cs]))).map fun r=>.rt r δ1 else none
 | .ifs c a b,δ=>do
   let (k,δ1) ← evT cx c δ
   if k then evSs a δ1 else evSs b δ1
 | .for_ tg src body,δ=>do
   let (ds,δ1) ← evI cx src δ
   forL (fun x δ0=>match setTg δ0 tg x with
    | some δ2=>evSs body δ2
    | none=>none) ds δ1
 | .while_ c body,δ=>whileL (fun δ0=>evT cx c δ0) (fun δ0=>evSs body δ0) 1000 δ
 | .append i e,δ=>match δ[i]? with
   | some (.own _)=>do
     let (d,δ1) ← evE cx e δ
     match δ1[i]? with
     | some (.own ds)=>if ds.length < sizeLine then some (.nx (δ1.set i (.own (ds++[d])))) else none
     | _=>none
   | _=>none
 | .extend i e,δ=>match δ[i]? with
   | some (.own _)=>do
     match ← evE cx e δ with
     | (.lst ys,δ1)=>match δ1[i]? with
       | some (.own ds)=>if ds.length+ys.length≤sizeLine then some (.nx (δ1.set i (.own (ds++ys)))) else none
       | _=>none
     | _=>none
   | _=>none
 | .setix i j e,δ=>do
   let (d,δ1) ← evE cx e δ
   match δ1[i]? with
   | some (.own _)=>do
     match ← evE cx j δ1 with
     | (.int k,δ2)=>match δ2[i]? with
       | some (.own ds)=>match L2.ixN ds.length k with
         | some m=>some (.nx (δ2.set i (.own (ds.set m d))))
         | none=>none
       | _=>none
     | _=>none
   | _=>none
 | .pass,δ=>some (.nx δ)
 | .brk,δ=>some (.bk δ)
 | .cont,δ=>some (.ct δ)
def evSs:Ss→Loc→Option Out
 | .nil,δ=>some (.nx δ)
 | .cons s ss,δ=>match evS s δ with
   | some (.nx δ1)=>evSs ss δ1
   | o=>o
end
end
structure Fd where
 name:Str
 ps:List Str
 loc:List Str
 body:Ss
 hf:Bool:=false
def outD:Option Out→Option D
 | some (.rt d _)=>some d
 | some (.ro ds _)=>some (.lst ds)
 | some (.nx _)=>some .non
 | _=>none
def ownD:Option Out→Option D
 | some (.ro ds _)=>some (.lst ds)
 | _=>none
def init (n:Nat) (ds:List D):Loc:=ds.map .val++List.replicate (n - ds.length) .no
def hfs (G:List Fd) (f:Nat):Bool:=match G[f]? with
 | some fd=>fd.hf
 | none=>false
def initF (n:Nat) (ds:List D) (k:Nat) (cs:List D):Loc:=ds.map .val++Sl.fnc k cs::List.replicate (n - (ds.length+1)) .no
def entry (hf:Bool) (n:Nat) (ds:List D):Option Loc:=match hf with
 | false=>some (init n ds)
 | true=>match ds.getLast? with
   | some (.fn k cs)=>some (initF n ds.dropLast k cs)
   | _=>none
def run (G:List Fd) (gl:List D):Nat→Nat→List D→Option D
 | 0,_,_=>none
 | n+1,f,ds=>match G[f]? with
   | some fd=>if ds.length = fd.ps.length then (match entry fd.hf (fd.ps++fd.loc).length ds with
     | some δ=>outD (evSs ⟨run G gl n,gl,hfs G⟩ fd.body δ)
     | none=>none) else none
   | none=>match G[f - own0]? with
     | some fd=>if own0≤f∧ds.length = fd.ps.length then (match entry fd.hf (fd.ps++fd.loc).length ds with
       | some δ=>ownD (evSs ⟨run G gl n,gl,hfs G⟩ fd.body δ)
       | none=>none) else none
     | none=>none
def isPk:E→Bool
 | .pk _=>true
 | _=>false
mutual
def np:E→Bool
 | .bin _ a b | .cmp _ a b | .and a b | .or a b | .ix a b=>np a && np b
 | .not a=>np a
 | .ssd a=>np a
 | .ite c a b=>np c && np a && np b
 | .tup es | .lst es | .call _ es | .blt _ es | .callv _ es | .callF _ es _=>npS es
 | .sl a lo hi=>np a && npO lo && npO hi
 | .pop _=>false
 | .comp _ _ src ifs elt=>npI src && npO ifs && np elt
 | _=>true
def npS:Es→Bool
 | .nil=>true
 | .cons e es=>np e && npS es
def npO:Eo→Bool
 | .no=>true
 | .yes e=>np e
def npI:It→Bool
 | .rng e=>np e
 | .sq e=>np e
end
end PP
example:PP.evE ⟨fun _ _=>none,[],fun _=>false⟩ (.bin .add (.int 1) (.int 2)) [] = some (.int 3,[]):=rfl
end
section
namespace PP
open PySem L2
def KLs (K:PySem.W.Frag) (a:Addr) (xs:List V):Prop:=∃ (its:Array Value) (n:Nat),K.lookup a = some ⟨.type "list",none,.seq its n,#[]⟩∧its.size≤sizeLine∧Vals xs its.toList
def Ls (K:PySem.W.Frag) (H:Hp) (F:Addr→Prop) (a:Addr) (xs:List V):Prop:=(Rd H a (.lst xs)∧¬ F a)∨KLs K a xs
def LsB (K:PySem.W.Frag) (H:Hp) (a:Addr) (xs:List V):Prop:=Rd H a (.lst xs)∨KLs K a xs
theorem Ls.b {K:PySem.W.Frag} {H:Hp} {F:Addr→Prop} {a:Addr} {xs:List V} (h:Ls K H F a xs):LsB K H a xs:=h.imp (·.1) id
theorem LsB.sq {K:PySem.W.Frag} {H:Hp} {a:Addr} {xs:List V} (h:LsB K H a xs):SqL K H a xs:=by
 rcases h with h | ⟨its,n,h1,h2,h3⟩
 · exact .inl h
 · exact .inr ⟨_,its,n,h1,rfl,rfl,rfl,h2,h3⟩
theorem Ls.sq {K:PySem.W.Frag} {H:Hp} {F:Addr→Prop} {a:Addr} {xs:List V} (h:Ls K H F a xs):SqL K H a xs:=h.b.sq
theorem LsB.obj {X:Cx} {pins:List (Addr × Obj)} {σ:St} {H:Hp} {s:Shared} {a:Addr} {xs:List V} (I:Inv X pins σ H s) (h:LsB X.K H a xs) :
 ∃ (its:List Value) (n:Nat),Vals xs its∧s.heap.get? a = some { cls:=.type "list",data:=.seq its.toArray n }∧xs.length≤sizeLine:=by
 rcases h with h | ⟨its,n,h1,h2,h3⟩
 · obtain ⟨z,its,n,r,e⟩:=h.ok I.hok
   exact ⟨its,n,r,e,z⟩
 · refine ⟨its.toList,n,h3,?_,?_⟩
   · have:=I.kIn a _ h1
     simpa using this
   · have:=h3.length
     rw [this]
     simpa using h2
mutual
def Rel (K:PySem.W.Frag) (H:Hp) (F:Addr→Prop):D→V→Prop
 | .non,v=>v = .non
 | .bl b,v=>v = .bl b
 | .int i,v=>v = .int i
 | .str x,v=>v = .str x
 | .lst ds,v=>∃ a xs,v = .ref a∧Ls K H F a xs∧RelL K H F ds xs
 | .tup ds,v=>∃ a xs,v = .ref a∧SqT K H a xs∧RelL K H F ds xs
 | .fn _ _,_=>False
def RelL (K:PySem.W.Frag) (H:Hp) (F:Addr→Prop):List D→List V→Prop
 | [],xs=>xs = []
 | d::ds,xs=>∃ y ys,xs = y::ys∧Rel K H F d y∧RelL K H F ds ys
end
def NT:HO→Prop
 | .tbl _=>False
 | _=>True
structure Sim (H H':Hp):Prop where
 nt:∀ b o,NT o→H b = some o→H' b = some o
 tb:∀ b ps,H b = some (.tbl ps)→∃ qs,H' b = some (.tbl qs)
theorem Sim.of {H H':Hp} (h:Same H H'):Sim H H':=⟨fun b o _ e=>h b o e,fun b ps e=>⟨ps,h b _ e⟩⟩
theorem Sim.refl (H:Hp):Sim H H:=⟨fun b o _ e=>e,fun b ps e=>⟨ps,e⟩⟩
theorem Sim.trans {H H1 H2:Hp} (a:Sim H H1) (b:Sim H1 H2):Sim H H2:=⟨fun x o n e=>b.nt x o n (a.nt x o n e),fun x ps e=>by
 obtain ⟨qs,e⟩:=a.tb x ps e
 exact b.tb x qs e⟩
def Fz (H:Hp) (a:Addr) (o:Obj):Prop:=H a = some (.frz o (.ext fun h=>h.get? a = some o))
structure Lam where
 qual:Str
 params:Arguments
 body:Expr
 scope:Scope
 ps:List Str
 caps:List Str
class Tbs where
 ts:List (Addr × Str)
 lams:List (Nat × Lam)
variable [Tbs]
def flV:D→V
 | .bl b=>.bl b
 | .int i=>.int i
 | .str x=>.str x
 | _=>.non
def CellsV (H:Hp):List Addr→List D→Prop
 | [],ds=>ds = []
 | c::r,ds=>∃ d ds' o u,ds = d::ds'∧flat d = true∧Fz H c o∧o.data = .cell (some u)∧RelV (flV d) u∧CellsV H r ds'
def FnV (H:Hp) (k:Nat) (cs:List D) (a:Addr):Prop:=∃ (L:Lam) (pm ctv:Value) (c':Addr) (oc:Obj) (vs:Array Value) (tk:Tok) (cells:List Addr),
 Tbs.lams.lookup k = some L∧Fz H a (PySem.W.kla_obj "<lambda>" L.qual L.params L.body L.scope (L.caps.zip cells) pm c' ctv)∧Fz H c' oc∧oc.data = .fields vs∧vs[1]? = some (.str L.qual tk)∧cells.Nodup∧cells.length = L.caps.length∧CellsV H cells cs
theorem CellsV.keep {H H':Hp} (k:∀ a o,Fz H a o→Fz H' a o):∀ {cells:List Addr} {cs:List D},CellsV H cells cs→CellsV H' cells cs
 | [],_,h=>h
 | c::r,cs,h=>by
   obtain ⟨d,ds',o,u,e,h1,h2,h3,h4,h5⟩:=h
   exact ⟨d,ds',o,u,e,h1,k _ _ h2,h3,h4,CellsV.keep k h5⟩
theorem FnV.keep {H H':Hp} (k:∀ a o,Fz H a o→Fz H' a o) {n:Nat} {cs:List D} {a:Addr} (h:FnV H n cs a):FnV H' n cs a:=by
 obtain ⟨L,pm,ctv,c',oc,vs,tk,cells,h1,h2,h3,h4,h5,h6,h7,h8⟩:=h
 exact ⟨L,pm,ctv,c',oc,vs,tk,cells,h1,k _ _ h2,k _ _ h3,h4,h5,h6,h7,h8.keep k⟩
def Tabs (H:Hp):Prop:=∀ t∈Tbs.ts,∃ ps,H t.1 = some (.tbl ps)∧TriplesOk ps.toList∧∀ pos cv,codeAmong pos ps.toList = some cv→∃ c o vs tk,cv = .ref c∧Fz H c o∧o.data = .fields vs∧vs[1]? = some (.str t.2 tk)
theorem Tabs.keep {H H':Hp} (h:Tabs H) (k:∀ b o,(∀ xs,o≠.lst xs)→H b = some o→H' b = some o):Tabs H':=fun t ht=>by
 obtain ⟨ps,h1,h2,h3⟩:=h t ht
 refine ⟨ps,k _ _ (fun xs z=>nomatch z) h1,h2,fun pos cv e=>?_⟩
 obtain ⟨c,o,vs,tk,e1,e2,e3⟩:=h3 pos cv e
 exact ⟨c,o,vs,tk,e1,k _ _ (fun xs z=>nomatch z) e2,e3⟩
def FD (F:Addr→Prop) (H:Hp):Prop:=∀ b,F b→(∃ xs,H b = some (.lst xs))∨(∃ ps,H b = some (.tbl ps)∧∃ t∈Tbs.ts,t.1 = b)∨∃ φ,H b = some (.ext φ)
def TF (F:Addr→Prop):Prop:=∀ t∈Tbs.ts,F t.1
structure Gh where
 h:Hp
 R:Addr→Prop
def Gh.free (G:Gh) (a:Addr):Prop:=G.h a = none∧¬ G.R a
def g0:Gh:=⟨fun _=>none,fun _=>False⟩
structure Step (G:Gh) (F:Addr→Prop) (H:Hp) (F':Addr→Prop) (H':Hp):Prop where
 keep:∀ b o,NT o→H b = some o→¬ F b→H' b = some o
 grow:∀ b,F' b→F b∨H b = none
 res:∀ b o,G.R b→F b→H b = some o→F' b∧H' b = some o
 tb:∀ b ps,H b = some (.tbl ps)→∃ qs,H' b = some (.tbl qs)
theorem Step.refl {G:Gh} {F:Addr→Prop} {H:Hp}:Step G F H F H:=⟨fun _ _ _ h _=>h,fun _ h=>.inl h,fun _ _ _ h e=>⟨h,e⟩,fun _ ps e=>⟨ps,e⟩⟩
theorem Step.trans {G:Gh} {H H1 H2:Hp} {F F1 F2:Addr→Prop} (a:Step G F H F1 H1) (b:Step G F1 H1 F2 H2):Step G F H F2 H2 where
 keep:=fun x o t h n=>b.keep x o t (a.keep x o t h n) fun z=>by
  rcases a.grow x z with q | q
  · exact n q
  · rw [h] at q;cases q
 grow:=fun x h=>by
  rcases b.grow x h with q | q
  · exact a.grow x q
  · by_cases f:F x
    · exact .inl f
    · right
      cases e:H x with
      | none=>rfl
      | some o =>
        by_cases t:NT o
        · rw [a.keep x o t e f] at q;cases q
        · cases o<;>first | (exact absurd trivial t) | skip
          obtain ⟨qs,z⟩:=a.tb x _ e
          rw [z] at q;cases q
 res:=fun x o r h e=>by
  obtain ⟨h1,e1⟩:=a.res x o r h e
  exact b.res x o r h1 e1
 tb:=fun x ps e=>by
  obtain ⟨qs,e⟩:=a.tb x ps e
  exact b.tb x qs e
theorem Step.of_same {G:Gh} {H H':Hp} {F:Addr→Prop} (h:Same H H'):Step G F H F H':=⟨fun b o _ e _=>h b o e,fun _ h=>.inl h,fun b o _ f e=>⟨f,h b o e⟩,fun b ps e=>⟨ps,h b _ e⟩⟩
section
variable {K:PySem.W.Frag} {G:Gh} {H H':Hp} {F F':Addr→Prop}
theorem rd_keep {a:Addr} {u:HO} (t:NT u) (k:∀ b o,NT o→H b = some o→¬ F b→H' b = some o) (n:¬ F a) (h:Rd H a u):Rd H' a u:=by
 rcases h with h | ⟨o,h⟩
 · exact .inl (k a _ t h n)
 · exact .inr ⟨o,k a _ trivial h n⟩
theorem sqt_keep {a:Addr} {xs:List V} (fd:FD F H) (k:∀ b o,NT o→H b = some o→¬ F b→H' b = some o) (h:SqT K H a xs):SqT K H' a xs:=by
 rcases h with h | h
 · refine .inl (rd_keep trivial k (fun z=>?_) h)
   rcases fd a z with ⟨ys,e⟩ | ⟨ys,e,_⟩ | ⟨ys,e⟩
   · rcases h with h | ⟨o,h⟩
     · rw [e] at h;cases h
     · rw [e] at h;cases h
   · rcases h with h | ⟨o,h⟩
     · rw [e] at h;cases h
     · rw [e] at h;cases h
   · rcases h with h | ⟨o,h⟩
     · rw [e] at h;cases h
     · rw [e] at h;cases h
 · exact .inr h
theorem Ls.step {a:Addr} {xs:List V} (s:Step G F H F' H') (h:Ls K H F a xs):Ls K H' F' a xs:=by
 rcases h with ⟨h1,h2⟩ | h
 · refine .inl ⟨rd_keep trivial s.keep h2 h1,fun z=>?_⟩
   rcases s.grow a z with q | q
   · exact h2 q
   · rcases h1 with h | ⟨o,h⟩
     · rw [h] at q;cases q
     · rw [h] at q;cases q
 · exact .inr h
theorem fz_keep (fd:FD F H) (k:∀ b o,NT o→H b = some o→¬ F b→H' b = some o):∀ a o,Fz H a o→Fz H' a o:=fun a o h=>by
 refine k a _ trivial h fun z=>?_
 unfold Fz at h
 rcases fd a z with ⟨ys,e⟩ | ⟨ys,e,_⟩ | ⟨ys,e⟩<;>(rw [e] at h;cases h)
mutual
theorem Rel.step (fd:FD F H) (s:Step G F H F' H'):∀ (d:D) (v:V),Rel K H F d v→Rel K H' F' d v
 | .non,v,h=>by unfold Rel at h ⊢;exact h
 | .bl b,v,h=>by unfold Rel at h ⊢;exact h
 | .int i,v,h=>by unfold Rel at h ⊢;exact h
 | .str x,v,h=>by unfold Rel at h ⊢;exact h
 | .lst ds,v,h=>by
   unfold Rel at h ⊢
   obtain ⟨a,xs,e,h1,h3⟩:=h
   exact ⟨a,xs,e,h1.step s,RelL.step fd s ds xs h3⟩
 | .tup ds,v,h=>by
   unfold Rel at h ⊢
   obtain ⟨a,xs,e,h1,h3⟩:=h
   exact ⟨a,xs,e,sqt_keep fd s.keep h1,RelL.step fd s ds xs h3⟩
 | .fn _ _,v,h=>by unfold Rel at h;exact h.elim
theorem RelL.step (fd:FD F H) (s:Step G F H F' H'):∀ (ds:List D) (xs:List V),RelL K H F ds xs→RelL K H' F' ds xs
 | [],xs,h=>by unfold RelL at h ⊢;exact h
 | d::ds,xs,h=>by
   unfold RelL at h ⊢
   obtain ⟨y,ys,e,h1,h2⟩:=h
   exact ⟨y,ys,e,Rel.step fd s d y h1,RelL.step fd s ds ys h2⟩
end
theorem Rel.less (fd:FD F H) (hs:∀ b,F' b→F b) {d:D} {v:V} (h:Rel K H F d v):Rel K H F' d v :=
 Rel.step (G:=g0) fd ⟨fun _ _ _ h _=>h,fun b z=>.inl (hs b z),fun _ _ r _ _=>r.elim,fun _ ps e=>⟨ps,e⟩⟩ d v h
theorem RelL.less (fd:FD F H) (hs:∀ b,F' b→F b) {ds:List D} {xs:List V} (h:RelL K H F ds xs):RelL K H F' ds xs :=
 RelL.step (G:=g0) fd ⟨fun _ _ _ h _=>h,fun b z=>.inl (hs b z),fun _ _ r _ _=>r.elim,fun _ ps e=>⟨ps,e⟩⟩ ds xs h
mutual
theorem Rel.free (fd:FD F' H):∀ (d:D) (v:V),lf d = true→Rel K H F d v→Rel K H F' d v
 | .non,v,_,h=>by unfold Rel at h ⊢;exact h
 | .bl b,v,_,h=>by unfold Rel at h ⊢;exact h
 | .int i,v,_,h=>by unfold Rel at h ⊢;exact h
 | .str x,v,_,h=>by unfold Rel at h ⊢;exact h
 | .lst ds,v,l,h=>by unfold lf at l;cases l
 | .tup ds,v,l,h=>by
   unfold lf at l
   unfold Rel at h ⊢
   obtain ⟨a,xs,e,h1,h3⟩:=h
   exact ⟨a,xs,e,h1,RelL.free fd ds xs l h3⟩
 | .fn _ _,v,l,h=>by unfold lf at l;cases l
theorem RelL.free (fd:FD F' H):∀ (ds:List D) (xs:List V),lfL ds = true→RelL K H F ds xs→RelL K H F' ds xs
 | [],xs,_,h=>by unfold RelL at h ⊢;exact h
 | d::ds,xs,l,h=>by
   unfold lfL at l
   rw [Bool.and_eq_true] at l
   unfold RelL at h ⊢
   obtain ⟨y,ys,e,h1,h2⟩:=h
   exact ⟨y,ys,e,Rel.free fd d y l.1 h1,RelL.free fd ds ys l.2 h2⟩
end
theorem RelL.length:∀ {ds:List D} {xs:List V},RelL K H F ds xs→xs.length = ds.length
 | [],xs,h=>by unfold RelL at h;subst h;rfl
 | d::ds,xs,h=>by
   unfold RelL at h
   obtain ⟨y,ys,e,_,h2⟩:=h
   subst e
   rw [List.length_cons,List.length_cons,RelL.length h2]
theorem RelL.get:∀ {ds:List D} {xs:List V} {i:Nat} {d:D},RelL K H F ds xs→ds[i]? = some d→∃ v,xs[i]? = some v∧Rel K H F d v
 | [],_,_,_,_,e=>by simp at e
 | d::ds,xs,i,d',h,e=>by
   unfold RelL at h
   obtain ⟨y,ys,q,h1,h2⟩:=h
   subst q
   cases i with
   | zero=>simp at e;subst e;exact ⟨y,rfl,h1⟩
   | succ i =>
     obtain ⟨v,h3,h4⟩:=RelL.get (i:=i) h2 (by simpa using e)
     exact ⟨v,by simpa using h3,h4⟩
theorem RelL.append:∀ {ds es:List D} {xs ys:List V},RelL K H F ds xs→RelL K H F es ys→RelL K H F (ds++es) (xs++ys)
 | [],es,xs,ys,h,h'=>by unfold RelL at h;subst h;exact h'
 | d::ds,es,xs,ys,h,h'=>by
   unfold RelL at h
   obtain ⟨y,zs,q,h1,h2⟩:=h
   subst q
   show RelL K H F (d::(ds++es)) (y::(zs++ys))
   unfold RelL
   exact ⟨y,zs++ys,rfl,h1,RelL.append h2 h'⟩
theorem RelL.one {d:D} {v:V} (h:Rel K H F d v):RelL K H F [d] [v]:=by
 unfold RelL
 exact ⟨v,[],rfl,h,by unfold RelL;rfl⟩
theorem RelL.nil:RelL K H F [] []:=by unfold RelL;rfl
theorem RelL.cons {d:D} {v:V} {ds:List D} {xs:List V} (h:Rel K H F d v) (t:RelL K H F ds xs):RelL K H F (d::ds) (v::xs):=by
 unfold RelL
 exact ⟨v,xs,rfl,h,t⟩
theorem RelL.take:∀ {ds:List D} {xs:List V} (n:Nat),RelL K H F ds xs→RelL K H F (ds.take n) (xs.take n)
 | [],xs,n,h=>by unfold RelL at h;subst h;simp;exact RelL.nil
 | d::ds,xs,0,h=>by simp;exact RelL.nil
 | d::ds,xs,n+1,h=>by
   unfold RelL at h
   obtain ⟨y,ys,q,h1,h2⟩:=h
   subst q
   rw [List.take_succ_cons,List.take_succ_cons]
   exact RelL.cons h1 (RelL.take n h2)
theorem RelL.drop:∀ {ds:List D} {xs:List V} (n:Nat),RelL K H F ds xs→RelL K H F (ds.drop n) (xs.drop n)
 | [],xs,n,h=>by unfold RelL at h;subst h;simp;exact RelL.nil
 | d::ds,xs,0,h=>h
 | d::ds,xs,n+1,h=>by
   unfold RelL at h
   obtain ⟨y,ys,q,h1,h2⟩:=h
   subst q
   rw [List.drop_succ_cons,List.drop_succ_cons]
   exact RelL.drop n h2
theorem RelL.set {d:D} {v:V} (r:Rel K H F d v):∀ {ds:List D} {xs:List V} (n:Nat),RelL K H F ds xs→RelL K H F (ds.set n d) (xs.set n v)
 | [],xs,n,h=>by unfold RelL at h;subst h;simp;exact RelL.nil
 | e::ds,xs,0,h=>by
   unfold RelL at h
   obtain ⟨y,ys,q,h1,h2⟩:=h
   subst q
   exact RelL.cons r h2
 | e::ds,xs,n+1,h=>by
   unfold RelL at h
   obtain ⟨y,ys,q,h1,h2⟩:=h
   subst q
   exact RelL.cons h1 (RelL.set r n h2)
theorem RelL.dropLast {ds:List D} {xs:List V} (h:RelL K H F ds xs):RelL K H F ds.dropLast xs.dropLast:=by
 rw [List.dropLast_eq_take,List.dropLast_eq_take,h.length]
 exact h.take _
theorem RelL.cut {ds:List D} {xs:List V} (lo hi:Option Int) (h:RelL K H F ds xs):RelL K H F (cutD ds lo hi) (cutV xs lo hi):=by
 unfold cutD cutV
 rw [h.length]
 exact (h.drop _).take _
end
def RelB (K:PySem.W.Frag) (H:Hp) (F:Addr→Prop) (d:D) (v:V):Prop:=Rel K H F d v∨∃ a xs ds,d = .lst ds∧v = .ref a∧H a = some (.lst xs)∧RelL K H F ds xs
def RelM (m:Bool) (K:PySem.W.Frag) (H:Hp) (F:Addr→Prop) (d:D) (v:V):Prop:=if m = true then RelB K H F d v else Rel K H F d v
theorem RelM.b {m:Bool} {K:PySem.W.Frag} {H:Hp} {F:Addr→Prop} {d:D} {v:V} (h:RelM m K H F d v):RelB K H F d v:=by
 unfold RelM at h
 split at h
 · exact h
 · exact .inl h
theorem RelB.same {K:PySem.W.Frag} {G:Gh} {H H':Hp} {F F':Addr→Prop} {d:D} {v:V} (fd:FD F H) (s:Step G F H F' H') (k:Sim H H') (h:RelB K H F d v):RelB K H' F' d v:=by
 rcases h with h | ⟨a,xs,ds,e1,e2,h1,h2⟩
 · exact .inl (Rel.step fd s d v h)
 · exact .inr ⟨a,xs,ds,e1,e2,k.nt _ _ trivial h1,RelL.step fd s ds xs h2⟩
theorem RelM.step {m:Bool} {K:PySem.W.Frag} {G:Gh} {H H':Hp} {F F':Addr→Prop} {d:D} {v:V} (fd:FD F H) (s:Step G F H F' H') (k:m = true→Sim H H') (h:RelM m K H F d v):RelM m K H' F' d v:=by
 cases m with
 | true=>exact RelB.same fd s (k rfl) h
 | false=>exact Rel.step fd s d v h
def SlOk (K:PySem.W.Frag) (G:Gh) (F:Addr→Prop) (H:Hp) (o:Option (Option V)):Sl→Prop
 | .no=>True
 | .val d=>∃ v,o = some (some v)∧Rel K H F d v
 | .own ds=>∃ a xs,o = some (some (.ref a))∧F a∧G.free a∧H a = some (.lst xs)∧RelL K H F ds xs
 | .fnc k cs=>∃ a,o = some (some (.ref a))∧FnV H k cs a
structure Ok (K:PySem.W.Frag) (G:Gh) (F:Addr→Prop) (σ:St) (H:Hp) (δ:Loc):Prop where
 same:Sim G.h H
 fd:FD F H
 rf:∀ b,G.R b→F b
 rl:∀ b,G.R b→(∃ xs,H b = some (.lst xs))∨∃ φ,H b = some (.ext φ)
 tf:TF F
 tabs:Tabs H
 len:δ.length = σ.length
 sl:∀ (i:Nat) (s:Sl),δ[i]? = some s→SlOk K G F H σ[i]? s
 apart:∀ (i j:Nat) (ds es:List D) (a:Addr),δ[i]? = some (.own ds)→δ[j]? = some (.own es)→σ[i]? = some (some (.ref a))→σ[j]? = some (some (.ref a))→i = j
section
variable {K:PySem.W.Frag} {G:Gh} {H H':Hp} {F F':Addr→Prop} {σ:St} {δ:Loc}
theorem SlOk.same {o:Option (Option V)} (fd:FD F H) (k:Same H H'):∀ {s:Sl},SlOk K G F H o s→SlOk K G F H' o s
 | .no,_=>trivial
 | .val d,h=>by
   obtain ⟨v,e,h⟩:=h
   exact ⟨v,e,Rel.step (G:=G) fd (Step.of_same k) d v h⟩
 | .own ds,h=>by
   obtain ⟨a,xs,e,h1,h2,h3,h4⟩:=h
   exact ⟨a,xs,e,h1,h2,k _ _ h3,RelL.step (G:=G) fd (Step.of_same k) ds xs h4⟩
 | .fnc n cs,h=>by
   obtain ⟨a,e,h⟩:=h
   exact ⟨a,e,h.keep fun a o z=>k _ _ z⟩
theorem FD.same (fd:FD F H) (k:Same H H'):FD F H':=fun b h=>(fd b h).imp (fun ⟨xs,e⟩=>⟨xs,k _ _ e⟩) fun z=>z.imp (fun ⟨xs,e,t⟩=>⟨xs,k _ _ e,t⟩) fun ⟨φ,e⟩=>⟨φ,k _ _ e⟩
theorem Ok.same' (h:Ok K G F σ H δ) (k:Same H H'):Ok K G F σ H' δ :=
 ⟨h.same.trans (.of k),h.fd.same k,h.rf,fun b z=>(h.rl b z).imp (fun ⟨xs,e⟩=>⟨xs,k _ _ e⟩) fun ⟨φ,e⟩=>⟨φ,k _ _ e⟩,h.tf,h.tabs.keep fun b o _ e=>k b o e,h.len,fun i s e=>(h.sl i s e).same h.fd k,h.apart⟩
theorem same_new {H:Hp} {p:Addr} (h:H p = none) (o:HO):Same H (upd H p o):=fun b u q=>by rw [upd_ne (ne_of_none q h)];exact q
theorem SlOk.less {o:Option (Option V)} (fd:FD F H) (hs:∀ b,F' b→F b):∀ {s:Sl},(∀ ds a,s = .own ds→o = some (some (.ref a))→F' a)→SlOk K G F H o s→SlOk K G F' H o s
 | .no,_,_=>trivial
 | .val d,_,h=>by
   obtain ⟨v,e,h⟩:=h
   exact ⟨v,e,Rel.less fd hs h⟩
 | .own ds,q,h=>by
   obtain ⟨a,xs,e,h1,h2,h3,h4⟩:=h
   exact ⟨a,xs,e,q ds a rfl e,h2,h3,RelL.less fd hs h4⟩
 | .fnc n cs,_,h=>h
theorem Ok.demote (h:Ok K G F σ H δ) {i:Nat} {ds:List D} {a:Addr} (e:δ[i]? = some (.own ds)) (ea:σ[i]? = some (some (.ref a))) :
 Ok K G (fun b=>F b∧b≠a) σ H (δ.set i (.val (.lst ds)))∧Rel K H (fun b=>F b∧b≠a) (.lst ds) (.ref a):=by
 have hi:i < δ.length:=(List.getElem?_eq_some_iff.mp e).1
 obtain ⟨a',xs,e1,h1,h2,h3,h4⟩:=h.sl i _ e
 rw [ea] at e1;cases e1
 have hs:∀ b,(F b∧b≠a)→F b:=fun b z=>z.1
 have r:Rel K H (fun b=>F b∧b≠a) (.lst ds) (.ref a):=by
  unfold Rel
  exact ⟨a,xs,rfl,.inl ⟨.inl h3,fun z=>z.2 rfl⟩,RelL.less h.fd hs h4⟩
 have tf':TF fun b=>F b∧b≠a:=fun t ht=>⟨h.tf t ht,fun w=>by
  obtain ⟨ps,e2,_⟩:=h.tabs t ht
  rw [w,h3] at e2;cases e2⟩
 refine ⟨⟨h.same,fun b z=>h.fd b z.1,fun b z=>⟨h.rf b z,fun w=>h2.2 (by rw [← w];exact z)⟩,h.rl,tf',h.tabs,by rw [List.length_set];exact h.len,fun j s q=>?_,fun j k es fs b q1 q2=>?_⟩,r⟩
 · by_cases hj:j = i
   · subst hj
     rw [List.getElem?_set_self hi] at q;cases q
     exact ⟨.ref a,ea,r⟩
   · rw [List.getElem?_set_ne (Ne.symm hj)] at q
     refine (h.sl j s q).less h.fd hs fun es b z zb=>?_
     subst z
     obtain ⟨b',ys,e1,f1,_⟩:=h.sl j _ q
     rw [zb] at e1;cases e1
     exact ⟨f1,fun z=>hj (h.apart j i es ds a q e (by rw [zb,z]) ea)⟩
 · by_cases hj:j = i
   · subst hj
     rw [List.getElem?_set_self hi] at q1;cases q1
   · by_cases hk:k = i
     · subst hk
       rw [List.getElem?_set_self hi] at q2;cases q2
     · rw [List.getElem?_set_ne (Ne.symm hj)] at q1
       rw [List.getElem?_set_ne (Ne.symm hk)] at q2
       exact h.apart j k es fs b q1 q2
theorem Ok.set (h:Ok K G F σ H δ) {i:Nat} {d:D} {v:V} (hi:i < δ.length) (r:Rel K H F d v):Ok K G F (σ.set i (some v)) H (δ.set i (.val d)):=by
 have hi':i < σ.length:=by rw [← h.len];exact hi
 refine ⟨h.same,h.fd,h.rf,h.rl,h.tf,h.tabs,by rw [List.length_set,List.length_set];exact h.len,fun j s q=>?_,fun j k es fs b q1 q2 p1 p2=>?_⟩
 · by_cases hj:j = i
   · subst hj
     rw [List.getElem?_set_self hi] at q;cases q
     exact ⟨v,by rw [List.getElem?_set_self hi'],r⟩
   · rw [List.getElem?_set_ne (Ne.symm hj)] at q ⊢
     exact h.sl j s q
 · by_cases hj:j = i
   · subst hj
     rw [List.getElem?_set_self hi] at q1;cases q1
   · by_cases hk:k = i
     · subst hk
       rw [List.getElem?_set_self hi] at q2;cases q2
     · rw [List.getElem?_set_ne (Ne.symm hj)] at q1 p1
       rw [List.getElem?_set_ne (Ne.symm hk)] at q2 p2
       exact h.apart j k es fs b q1 q2 p1 p2
theorem Ok.own (h:Ok K G F σ H δ) {i:Nat} {ds:List D} {xs:List V} {p:Addr} (hi:i < δ.length) (hp:F p) (hg:G.free p) (e:H p = some (.lst xs)) (r:RelL K H F ds xs)
 (hn:∀ (j:Nat) es,δ[j]? = some (.own es)→σ[j]?≠some (some (.ref p))):Ok K G F (σ.set i (some (.ref p))) H (δ.set i (.own ds)):=by
 have hi':i < σ.length:=by rw [← h.len];exact hi
 refine ⟨h.same,h.fd,h.rf,h.rl,h.tf,h.tabs,by rw [List.length_set,List.length_set];exact h.len,fun j s q=>?_,fun j k es fs b q1 q2 p1 p2=>?_⟩
 · by_cases hj:j = i
   · subst hj
     rw [List.getElem?_set_self hi] at q;cases q
     exact ⟨p,xs,by rw [List.getElem?_set_self hi'],hp,hg,e,r⟩
   · rw [List.getElem?_set_ne (Ne.symm hj)] at q ⊢
     exact h.sl j s q
 · by_cases hj:j = i
   · by_cases hk:k = i
     · rw [hj,hk]
     · exfalso
       subst hj
       rw [List.getElem?_set_self hi'] at p1
       rw [List.getElem?_set_ne (Ne.symm hk)] at q2 p2
       cases p1
       exact hn k fs q2 p2
   · by_cases hk:k = i
     · exfalso
       subst hk
       rw [List.getElem?_set_self hi'] at p2
       rw [List.getElem?_set_ne (Ne.symm hj)] at q1 p1
       cases p2
       exact hn j es q1 p1
     · rw [List.getElem?_set_ne (Ne.symm hj)] at q1 p1
       rw [List.getElem?_set_ne (Ne.symm hk)] at q2 p2
       exact h.apart j k es fs b q1 q2 p1 p2
theorem Ok.write (h:Ok K G F σ H δ) {i:Nat} {ds es:List D} {a:Addr} {ys:List V} (e:δ[i]? = some (.own ds)) (ea:σ[i]? = some (some (.ref a))) (r:RelL K H F es ys) :
 Ok K G F σ (upd H a (.lst ys)) (δ.set i (.own es))∧Step G F H F (upd H a (.lst ys)):=by
 have hi:i < δ.length:=(List.getElem?_eq_some_iff.mp e).1
 have e':=e
 obtain ⟨a',xs,e1,h1,h2,h3,h4⟩:=h.sl i _ e
 rw [ea] at e1;cases e1
 have st:Step G F H F (upd H a (.lst ys)):=⟨fun b o _ q n=>by
  rw [upd_ne (fun z:b = a=>n (by rw [z];exact h1))];exact q,fun b z=>.inl z,fun b o r z e=>⟨z,by rw [upd_ne (fun w:b = a=>h2.2 (by rw [← w];exact r))];exact e⟩,fun b ps e=>⟨ps,by rw [upd_ne (fun w:b = a=>by rw [w,h3] at e;cases e)];exact e⟩⟩
 have tb':Tabs (upd H a (.lst ys)):=h.tabs.keep fun b o n e=>by rw [upd_ne (fun w:b = a=>by rw [w,h3] at e;cases e;exact n _ rfl)];exact e
 refine ⟨⟨⟨fun b o t q=>?_,fun b ps q=>?_⟩,fun b z=>?_,h.rf,fun b z=>?_,h.tf,tb',by rw [List.length_set];exact h.len,fun j s q=>?_,fun j k es' fs b q1 q2 p1 p2=>?_⟩,st⟩
 · have:=h.same.nt b o t q
   rw [upd_ne (fun z:b = a=>by rw [z,h2.1] at q;cases q)]
   exact this
 · rw [upd_ne (fun z:b = a=>by rw [z,h2.1] at q;cases q)]
   exact h.same.tb b ps q
 · by_cases hb:b = a
   · subst hb;exact .inl ⟨ys,upd_same⟩
   · rw [upd_ne hb];exact h.fd b z
 · by_cases hb:b = a
   · subst hb;exact .inl ⟨ys,upd_same⟩
   · rw [upd_ne hb];exact h.rl b z
 · by_cases hj:j = i
   · subst hj
     rw [List.getElem?_set_self hi] at q;cases q
     exact ⟨a,ys,ea,h1,h2,upd_same,RelL.step h.fd st es ys r⟩
   · rw [List.getElem?_set_ne (Ne.symm hj)] at q
     have z:=h.sl j s q
     cases s with
     | no=>trivial
     | fnc n cs =>
       obtain ⟨v,e,z⟩:=z
       exact ⟨v,e,z.keep (fz_keep h.fd st.keep)⟩
     | val d =>
       obtain ⟨v,e,z⟩:=z
       exact ⟨v,e,Rel.step h.fd st d v z⟩
     | own fs =>
       obtain ⟨b,zs,e,f1,f2,f3,f4⟩:=z
       refine ⟨b,zs,e,f1,f2,?_,RelL.step h.fd st fs zs f4⟩
       rw [upd_ne (fun w:b = a=>hj (h.apart j i fs ds a q e' (by rw [e,w]) ea))]
       exact f3
 · have un:∀ (m:Nat) (gs:List D),(δ.set i (.own es))[m]? = some (.own gs)→∃ hs,δ[m]? = some (.own hs):=fun m gs q=>by
    by_cases hm:m = i
    · subst hm;exact ⟨ds,e⟩
    · rw [List.getElem?_set_ne (Ne.symm hm)] at q;exact ⟨gs,q⟩
   obtain ⟨g1,q1⟩:=un j _ q1
   obtain ⟨g2,q2⟩:=un k _ q2
   exact h.apart j k g1 g2 b q1 q2 p1 p2
theorem Step.of_sim (rl:∀ b,G.R b→(∃ xs,H b = some (.lst xs))∨∃ φ,H b = some (.ext φ)) (k:Sim H H'):Step G F H F H':=⟨fun b o t e _=>k.nt b o t e,fun b z=>.inl z,fun b o r f e=>⟨f,by
 rcases rl b r with ⟨xs,e2⟩ | ⟨xs,e2⟩
 · rw [e] at e2
   cases e2
   exact k.nt b _ trivial e
 · rw [e] at e2
   cases e2
   exact k.nt b _ trivial e⟩,k.tb⟩
theorem Ok.call (h:Ok K G F σ H δ) (k:Sim H H') (t:Tabs H'):Ok K G F σ H' δ∧Step G F H F H':=by
 have st:Step G F H F H':=Step.of_sim h.rl k
 refine ⟨⟨h.same.trans k,fun b z=>(h.fd b z).imp (fun ⟨xs,e⟩=>⟨xs,k.nt _ _ trivial e⟩) fun z=>z.imp (fun ⟨ps,e,t⟩=>let ⟨qs,e⟩:=k.tb b ps e;⟨qs,e,t⟩) fun ⟨φ,e⟩=>⟨φ,k.nt _ _ trivial e⟩,h.rf,fun b z=>(h.rl b z).imp (fun ⟨xs,e⟩=>⟨xs,k.nt _ _ trivial e⟩) fun ⟨φ,e⟩=>⟨φ,k.nt _ _ trivial e⟩,h.tf,t,h.len,fun i s e=>?_,h.apart⟩,st⟩
 have q:=h.sl i s e
 cases s with
 | no=>trivial
 | fnc n cs =>
   obtain ⟨v,e,r⟩:=q
   exact ⟨v,e,r.keep (fz_keep h.fd st.keep)⟩
 | val d =>
   obtain ⟨v,e,r⟩:=q
   exact ⟨v,e,Rel.step h.fd st d v r⟩
 | own ds =>
   obtain ⟨a,xs,e,h1,h2,h3,h4⟩:=q
   exact ⟨a,xs,e,h1,h2,k.nt _ _ trivial h3,RelL.step h.fd st ds xs h4⟩
end
end PP
end
section
namespace PP
open PySem L2 PyProof.Rows PySem.SeqAt
variable [Tbs]
theorem foldl_app (xs:List (Array Nat)):∀ a:Array Nat,(xs.foldl (·++·) a).toList = a.toList++(xs.map (·.toList)).flatten:=by
 induction xs with
 | nil=>intro a;simp
 | cons x r ih=>intro a;rw [List.foldl_cons,ih];simp
theorem mul_rep (x:Str) (n:Int) (h:0≤n):Txt.mul x n = repS x n.toNat:=by
 unfold Txt.mul repS
 by_cases h1:n < 1
 · have:n = 0:=by omega
   subst this
   rfl
 · rw [if_neg h1]
   by_cases h2:(n == 1 || x.length == 0) = true
   · rw [if_pos h2]
     rw [Bool.or_eq_true] at h2
     rcases h2 with h2 | h2
     · have:n = 1:=by simpa using h2
       subst this
       simp
     · have e:x.cps = #[]:=by
        have:x.cps.size = 0:=by simpa [Str.length] using h2
        exact Array.eq_empty_of_size_eq_zero this
       cases x
       simp at e
       subst e
       simp
   · rw [if_neg h2]
     congr 1
     apply Array.ext'
     rw [foldl_app]
     simp
theorem op_mulS {X:Cx}:OpR X (binaryOp .Mult) (fun x y H Q=>∃ i n,x = .str i∧y = .int n∧(0≤n∧n≤1000∧i.length≤1000)∧Q (.str (repS i n.toNat)) H):=by
 intro pins s σ H x y v u Q I rx ry h
 obtain ⟨i,n,rfl,rfl,⟨h1,h2,h3⟩,q⟩:=h
 obtain ⟨t,rfl⟩:=rx
 obtain ⟨t',rfl⟩:=ry
 refine SB.mul ⟨?_,fun a _ b=>?_,fun a _=>?_⟩ fun t' k=>?_
 · simp;omega
 · have:(1000:Int)≤(2 ^ 63 - 1) / n:=by rw [Int.le_ediv_iff_mul_le (by omega)];omega
   omega
 · have:i.length * n.toNat≤1000 * 1000:=Nat.mul_le_mul h3 (by omega)
   have z:=sizeLine_eq
   unfold Builtin.Str.tooLong
   simp
   omega
 · rw [mul_rep i n h1]
   exact ⟨.str _,H,I.tok _,⟨_,rfl⟩,q⟩
mutual
def RdV (h:Heap):D→Value→Prop
 | .non,u=>u = .none
 | .bl b,u=>u = .bool b
 | .int i,u=>∃ t,u = .int i t
 | .str x,u=>∃ t,u = .str x t
 | .lst ds,u=>∃ a its,u = .ref a∧h.IsList a its∧RdL h ds its.toList
 | .tup ds,u=>∃ a its,u = .ref a∧h.IsTuple a its∧RdL h ds its.toList
 | .fn _ _,_=>False
def RdL (h:Heap):List D→List Value→Prop
 | [],us=>us = []
 | d::ds,us=>∃ w ws,us = w::ws∧RdV h d w∧RdL h ds ws
end
mutual
theorem rdV_of {X:Cx} {pins:List (Addr × Obj)} {σ:L2.St} {H:Hp} {s:Shared} {F:Addr→Prop} (I:Inv X pins σ H s):∀ (d:D) (v:V) (u:Value),Rel X.K H F d v→RelV v u→RdV s.heap d u
 | .non,v,u,h,r=>by unfold Rel at h;subst h;unfold RdV;exact r
 | .bl b,v,u,h,r=>by unfold Rel at h;subst h;unfold RdV;exact r
 | .int b,v,u,h,r=>by unfold Rel at h;subst h;unfold RdV;exact r
 | .str b,v,u,h,r=>by unfold Rel at h;subst h;unfold RdV;exact r
 | .lst ds,v,u,h,r=>by
   unfold Rel at h
   obtain ⟨a,xs,e,h1,h3⟩:=h
   subst e
   cases (show u = Value.ref a from r)
   obtain ⟨its,rv,p,hz⟩:=I.list h1.sq
   unfold RdV
   exact ⟨a,its.toArray,rfl,p.isList,rdL_of I ds xs its h3 rv⟩
 | .tup ds,v,u,h,r=>by
   unfold Rel at h
   obtain ⟨a,xs,e,h1,h3⟩:=h
   subst e
   cases (show u = Value.ref a from r)
   obtain ⟨its,rv,p,hz⟩:=I.tuple h1
   unfold RdV
   exact ⟨a,its.toArray,rfl,p,rdL_of I ds xs its h3 rv⟩
 | .fn _ _,v,u,h,r=>by unfold Rel at h;exact h.elim
theorem rdL_of {X:Cx} {pins:List (Addr × Obj)} {σ:L2.St} {H:Hp} {s:Shared} {F:Addr→Prop} (I:Inv X pins σ H s):∀ (ds:List D) (xs:List V) (us:List Value),RelL X.K H F ds xs→Vals xs us→RdL s.heap ds us
 | [],xs,us,h,r=>by unfold RelL at h;subst h;cases r;unfold RdL;rfl
 | d::ds,xs,us,h,r=>by
   unfold RelL at h
   obtain ⟨y,ys,e,h1,h2⟩:=h
   subst e
   cases r with
   | cons r1 r2 =>
     unfold RdL
     exact ⟨_,_,rfl,rdV_of I d y _ h1 r1,rdL_of I ds ys _ h2 r2⟩
end
theorem rdB_of {X:Cx} {pins:List (Addr × Obj)} {σ:L2.St} {H:Hp} {s:Shared} {F:Addr→Prop} (I:Inv X pins σ H s) {d:D} {v:V} {u:Value} (h:RelB X.K H F d v) (r:RelV v u):RdV s.heap d u:=by
 rcases h with h | ⟨a,xs,ds,rfl,rfl,h1,h2⟩
 · exact rdV_of I d v u h r
 · cases (show u = Value.ref a from r)
   obtain ⟨its,rv,p,hz⟩:=I.list (.inl (.inl h1))
   unfold RdV
   exact ⟨a,its.toArray,rfl,p.isList,rdL_of I ds xs its h2 rv⟩
mutual
theorem RdV.inj {h:Heap}:∀ (d e:D) (u:Value),RdV h d u→RdV h e u→d = e
 | .non,e,u,a,b=>by
   unfold RdV at a;subst a
   cases e<;>unfold RdV at b<;>first | rfl | (obtain ⟨_,_,b,_⟩:=b;cases b;done) | (obtain ⟨_,b⟩:=b;cases b;done) | (cases b;done)
 | .bl x,e,u,a,b=>by
   unfold RdV at a;subst a
   cases e<;>unfold RdV at b<;>first | (cases b;rfl) | (obtain ⟨_,_,b,_⟩:=b;cases b;done) | (obtain ⟨_,b⟩:=b;cases b;done) | (cases b;done)
 | .int x,e,u,a,b=>by
   unfold RdV at a;obtain ⟨t,a⟩:=a;subst a
   cases e<;>unfold RdV at b<;>first | (obtain ⟨_,_,b,_⟩:=b;cases b;done) | (obtain ⟨_,b⟩:=b;cases b;rfl) | (obtain ⟨_,b⟩:=b;cases b;done) | (cases b;done)
 | .str x,e,u,a,b=>by
   unfold RdV at a;obtain ⟨t,a⟩:=a;subst a
   cases e<;>unfold RdV at b<;>first | (obtain ⟨_,_,b,_⟩:=b;cases b;done) | (obtain ⟨_,b⟩:=b;cases b;rfl) | (obtain ⟨_,b⟩:=b;cases b;done) | (cases b;done)
 | .lst ds,e,u,a,b=>by
   unfold RdV at a;obtain ⟨l,its,a,h1,h2⟩:=a;subst a
   cases e with
   | lst es =>
     unfold RdV at b;obtain ⟨l',its',b,k1,k2⟩:=b;cases b
     obtain ⟨o,g1,g2,n,g3⟩:=h1
     obtain ⟨o',f1,f2,n',f3⟩:=k1
     rw [g1] at f1;cases f1
     rw [g3] at f3;cases f3
     rw [RdL.inj ds es _ h2 k2]
   | tup es =>
     unfold RdV at b;obtain ⟨l',its',b,k1,k2⟩:=b;cases b
     obtain ⟨o,g1,g2,_⟩:=h1
     obtain ⟨o',f1,f2,_⟩:=k1
     rw [g1] at f1;cases f1
     rw [g2] at f2;injection f2 with f2;exact absurd f2 (by decide)
   | _=>unfold RdV at b;first | (obtain ⟨_,b⟩:=b;cases b) | cases b
 | .tup ds,e,u,a,b=>by
   unfold RdV at a;obtain ⟨l,its,a,h1,h2⟩:=a;subst a
   cases e with
   | tup es =>
     unfold RdV at b;obtain ⟨l',its',b,k1,k2⟩:=b;cases b
     obtain ⟨o,g1,g2,n,g3⟩:=h1
     obtain ⟨o',f1,f2,n',f3⟩:=k1
     rw [g1] at f1;cases f1
     rw [g3] at f3;cases f3
     rw [RdL.inj ds es _ h2 k2]
   | lst es =>
     unfold RdV at b;obtain ⟨l',its',b,k1,k2⟩:=b;cases b
     obtain ⟨o,g1,g2,_⟩:=h1
     obtain ⟨o',f1,f2,_⟩:=k1
     rw [g1] at f1;cases f1
     rw [g2] at f2;injection f2 with f2;exact absurd f2 (by decide)
   | _=>unfold RdV at b;first | (obtain ⟨_,b⟩:=b;cases b) | cases b
 | .fn _ _,e,u,a,b=>by unfold RdV at a;exact a.elim
theorem RdL.inj {h:Heap}:∀ (ds es:List D) (us:List Value),RdL h ds us→RdL h es us→ds = es
 | [],es,us,a,b=>by
   unfold RdL at a;subst a
   cases es with
   | nil=>rfl
   | cons e es=>unfold RdL at b;obtain ⟨_,_,b,_⟩:=b;cases b
 | d::ds,es,us,a,b=>by
   unfold RdL at a;obtain ⟨w,ws,a,h1,h2⟩:=a;subst a
   cases es with
   | nil=>unfold RdL at b;cases b
   | cons e es =>
     unfold RdL at b;obtain ⟨_,_,b,k1,k2⟩:=b;cases b
     rw [RdV.inj d e w h1 k1,RdL.inj ds es ws h2 k2]
end
mutual
theorem eqD_refl:∀ d:D,dep d < 100000→eqD d d = true
 | .non,_=>by unfold eqD;rfl
 | .bl b,_=>by unfold eqD;simp
 | .int b,_=>by unfold eqD;simp
 | .str b,_=>by unfold eqD;simp
 | .lst ds,h=>by unfold eqD;exact eqDs_refl ds (by unfold dep at h;omega)
 | .tup ds,h=>by unfold eqD;exact eqDs_refl ds (by unfold dep at h;omega)
 | .fn _ _,h=>by unfold dep at h;omega
theorem eqDs_refl:∀ ds:List D,depL ds < 100000→eqDs ds ds = true
 | [],_=>by unfold eqDs;rfl
 | d::ds,h=>by
   unfold depL at h
   unfold eqDs
   rw [eqD_refl d (by omega),eqDs_refl ds (by omega)]
   rfl
end
def pairD (ds es:List D) (j:Nat):Bool:=match ds[j]?,es[j]? with
 | some x,some y=>eqD x y
 | _,_=>false
theorem pairD_all:∀ (ds es:List D),(List.range (min ds.length es.length)).all (pairD ds es) = true∧ds.length = es.length↔eqDs ds es = true
 | [],[]=>by unfold eqDs;simp
 | [],_::_=>by unfold eqDs;simp
 | _::_,[]=>by unfold eqDs;simp
 | d::ds,e::es=>by
   have ih:=pairD_all ds es
   have e1:min (d::ds).length (e::es).length = min ds.length es.length+1:=by simp only [List.length_cons];omega
   rw [e1,List.range_succ_eq_map,List.all_cons,List.all_map]
   have e2:(pairD (d::ds) (e::es) ∘ Nat.succ) = pairD ds es:=by funext j;simp [pairD]
   rw [e2]
   unfold eqDs
   rw [Bool.and_eq_true,Bool.and_eq_true,← ih]
   have e3:pairD (d::ds) (e::es) 0 = eqD d e:=rfl
   rw [e3]
   simp only [List.length_cons]
   constructor
   · rintro ⟨⟨a,b⟩,c⟩;exact ⟨a,b,by omega⟩
   · rintro ⟨a,b,c⟩;exact ⟨⟨a,b⟩,by omega⟩
theorem eqDs_len {ds es:List D} (h:ds.length = es.length):(List.range ds.length).all (pairD ds es) = eqDs ds es:=by
 have q:=pairD_all ds es
 rw [← h,Nat.min_self] at q
 rw [Bool.eq_iff_iff]
 rw [← q]
 simp
theorem eqDs_ne {ds es:List D} (h:ds.length≠es.length):eqDs ds es = false:=by
 have q:=pairD_all ds es
 rw [Bool.eq_false_iff]
 intro z
 exact h (q.mpr z).2
theorem eqDs_both (ds es:List D):((List.range (min ds.length es.length)).all (pairD ds es) && ds.length == es.length) = eqDs ds es:=by
 have q:=pairD_all ds es
 rw [Bool.eq_iff_iff,Bool.and_eq_true,← q]
 simp
theorem RdL.length {h:Heap}:∀ {ds:List D} {us:List Value},RdL h ds us→us.length = ds.length
 | [],us,a=>by unfold RdL at a;subst a;rfl
 | d::ds,us,a=>by
   unfold RdL at a;obtain ⟨w,ws,a,_,h2⟩:=a;subst a
   rw [List.length_cons,List.length_cons,RdL.length h2]
mutual
theorem eqAt_D:∀ (a b:D) (A:Around) (s:Shared) (u v:Value),RdV s.heap a u→RdV s.heap b v→A.units+min (dep a) (dep b) < cLine→EqAt A s u v (eqD a b)
 | .non,b,A,s,u,v,ra,rb,hu=>by
   unfold RdV at ra;subst ra
   cases b with
   | non=>unfold RdV at rb;subst rb;unfold eqD;exact EqAt.same _
   | bl b=>unfold RdV at rb;subst rb;unfold eqD;exact EqAt.none_bool b
   | int b=>unfold RdV at rb;obtain ⟨t,rfl⟩:=rb;unfold eqD;exact EqAt.none_int b t
   | str b=>unfold RdV at rb;obtain ⟨t,rfl⟩:=rb;unfold eqD;exact EqAt.none_str b t
   | lst ds=>unfold RdV at rb;obtain ⟨l,its,rfl,h1,h2⟩:=rb;unfold eqD;exact EqAt.none_list h1 (by omega)
   | tup ds=>unfold RdV at rb;obtain ⟨l,its,rfl,h1,h2⟩:=rb;unfold eqD;exact EqAt.none_tuple h1 (by omega)
   | fn _ _=>unfold RdV at rb;exact rb.elim
 | .bl a,b,A,s,u,v,ra,rb,hu=>by
   unfold RdV at ra;subst ra
   cases b with
   | non=>unfold RdV at rb;subst rb;unfold eqD;exact EqAt.bool_none a
   | bl b=>unfold RdV at rb;subst rb;unfold eqD;exact EqAt.bool_bool a b
   | int b=>unfold RdV at rb;obtain ⟨t,rfl⟩:=rb;unfold eqD;exact EqAt.bool_int a b t
   | str b=>unfold RdV at rb;obtain ⟨t,rfl⟩:=rb;unfold eqD;exact EqAt.bool_str a b t
   | lst ds=>unfold RdV at rb;obtain ⟨l,its,rfl,h1,h2⟩:=rb;unfold eqD;exact EqAt.bool_list a h1 (by omega)
   | tup ds=>unfold RdV at rb;obtain ⟨l,its,rfl,h1,h2⟩:=rb;unfold eqD;exact EqAt.bool_tuple a h1 (by omega)
   | fn _ _=>unfold RdV at rb;exact rb.elim
 | .int a,b,A,s,u,v,ra,rb,hu=>by
   unfold RdV at ra;obtain ⟨t',rfl⟩:=ra
   cases b with
   | non=>unfold RdV at rb;subst rb;unfold eqD;exact EqAt.int_none a t'
   | bl b=>unfold RdV at rb;subst rb;unfold eqD;exact EqAt.int_bool a t' b
   | int b=>unfold RdV at rb;obtain ⟨t,rfl⟩:=rb;unfold eqD;exact EqAt.int_int a t' b t
   | str b=>unfold RdV at rb;obtain ⟨t,rfl⟩:=rb;unfold eqD;exact EqAt.int_str a t' b t
   | lst ds=>unfold RdV at rb;obtain ⟨l,its,rfl,h1,h2⟩:=rb;unfold eqD;exact EqAt.int_list a t' h1 (by omega)
   | tup ds=>unfold RdV at rb;obtain ⟨l,its,rfl,h1,h2⟩:=rb;unfold eqD;exact EqAt.int_tuple a t' h1 (by omega)
   | fn _ _=>unfold RdV at rb;exact rb.elim
 | .str a,b,A,s,u,v,ra,rb,hu=>by
   unfold RdV at ra;obtain ⟨t',rfl⟩:=ra
   cases b with
   | non=>unfold RdV at rb;subst rb;unfold eqD;exact EqAt.str_none a t'
   | bl b=>unfold RdV at rb;subst rb;unfold eqD;exact EqAt.str_bool a t' b
   | int b=>unfold RdV at rb;obtain ⟨t,rfl⟩:=rb;unfold eqD;exact EqAt.str_int a t' b t
   | str b=>unfold RdV at rb;obtain ⟨t,rfl⟩:=rb;unfold eqD;exact EqAt.str_str a t' b t
   | lst ds=>unfold RdV at rb;obtain ⟨l,its,rfl,h1,h2⟩:=rb;unfold eqD;exact EqAt.str_list a t' h1 (by omega)
   | tup ds=>unfold RdV at rb;obtain ⟨l,its,rfl,h1,h2⟩:=rb;unfold eqD;exact EqAt.str_tuple a t' h1 (by omega)
   | fn _ _=>unfold RdV at rb;exact rb.elim
 | .lst ds,b,A,s,u,v,ra,rb,hu=>by
   have ra':=ra
   unfold RdV at ra;obtain ⟨l,its,rfl,h1,h2⟩:=ra
   cases b with
   | non=>unfold RdV at rb;subst rb;unfold eqD;exact EqAt.list_none h1 (by omega)
   | bl b=>unfold RdV at rb;subst rb;unfold eqD;exact EqAt.list_bool b h1 (by omega)
   | int b=>unfold RdV at rb;obtain ⟨t,rfl⟩:=rb;unfold eqD;exact EqAt.list_int b t h1 (by omega)
   | str b=>unfold RdV at rb;obtain ⟨t,rfl⟩:=rb;unfold eqD;exact EqAt.list_str b t h1 (by omega)
   | tup es=>unfold RdV at rb;obtain ⟨l',its',rfl,k1,k2⟩:=rb;unfold eqD;exact EqAt.list_tuple h1 k1 (by omega)
   | lst es =>
     have rb':=rb
     unfold RdV at rb;obtain ⟨l',its',rfl,k1,k2⟩:=rb
     by_cases hl:l = l'
     · subst hl
       have e:=RdV.inj _ _ _ ra' rb'
       cases e
       have hd:dep (.lst ds) < 100000:=by rw [Nat.min_self] at hu;have:cLine = 9900:=rfl;omega
       rw [eqD_refl _ hd]
       exact EqAt.same _
     · unfold eqD
       have n1:its.size = ds.length:=by simpa using h2.length
       have n2:its'.size = es.length:=by simpa using k2.length
       have he:∀ j (j1:j < its.size) (j2:j < its'.size),EqAt A.in1 s its[j] its'[j] (pairD ds es j):=fun j j1 j2=>by
        have q:=eqAt_DL ds es A.in1 s its.toList its'.toList h2 k2 (by show A.units+1+_ < _;unfold dep at hu;omega) j (by simpa using j1) (by simpa using j2)
        simpa using q
       refine EqAt.of_refs hl ?_
       by_cases hsz:its.size = its'.size
       · rw [← eqDs_len (by omega:ds.length = es.length),← n1]
         exact RcAt.lists h1 k1 hsz (by omega) he
       · rw [eqDs_ne (by omega:ds.length≠es.length)]
         exact RcAt.lists_lengths h1 k1 (by simpa using hsz) (by omega)
   | fn _ _=>unfold RdV at rb;exact rb.elim
 | .tup ds,b,A,s,u,v,ra,rb,hu=>by
   have ra':=ra
   unfold RdV at ra;obtain ⟨l,its,rfl,h1,h2⟩:=ra
   cases b with
   | non=>unfold RdV at rb;subst rb;unfold eqD;exact EqAt.tuple_none h1 (by omega)
   | bl b=>unfold RdV at rb;subst rb;unfold eqD;exact EqAt.tuple_bool b h1 (by omega)
   | int b=>unfold RdV at rb;obtain ⟨t,rfl⟩:=rb;unfold eqD;exact EqAt.tuple_int b t h1 (by omega)
   | str b=>unfold RdV at rb;obtain ⟨t,rfl⟩:=rb;unfold eqD;exact EqAt.tuple_str b t h1 (by omega)
   | lst es=>unfold RdV at rb;obtain ⟨l',its',rfl,k1,k2⟩:=rb;unfold eqD;exact EqAt.tuple_list h1 k1 (by omega)
   | tup es =>
     have rb':=rb
     unfold RdV at rb;obtain ⟨l',its',rfl,k1,k2⟩:=rb
     by_cases hl:l = l'
     · subst hl
       have e:=RdV.inj _ _ _ ra' rb'
       cases e
       have hd:dep (.tup ds) < 100000:=by rw [Nat.min_self] at hu;have:cLine = 9900:=rfl;omega
       rw [eqD_refl _ hd]
       exact EqAt.same _
     · unfold eqD
       have n1:its.size = ds.length:=by simpa using h2.length
       have n2:its'.size = es.length:=by simpa using k2.length
       have he:∀ j (j1:j < its.size) (j2:j < its'.size),EqAt A.in1 s its[j] its'[j] (pairD ds es j):=fun j j1 j2=>by
        have q:=eqAt_DL ds es A.in1 s its.toList its'.toList h2 k2 (by show A.units+1+_ < _;unfold dep at hu;omega) j (by simpa using j1) (by simpa using j2)
        simpa using q
       refine EqAt.of_refs hl ?_
       rw [← eqDs_both,← n1,← n2]
       exact RcAt.tuples h1 k1 (by omega) he
   | fn _ _=>unfold RdV at rb;exact rb.elim
 | .fn _ _,b,A,s,u,v,ra,rb,hu=>by unfold RdV at ra;exact ra.elim
theorem eqAt_DL:∀ (ds es:List D) (A:Around) (s:Shared) (us vs:List Value),RdL s.heap ds us→RdL s.heap es vs→A.units+min (depL ds) (depL es) < cLine→∀ j (h1:j < us.length) (h2:j < vs.length),EqAt A s us[j] vs[j] (pairD ds es j)
 | [],_,_,_,us,_,ra,_,_,j,h1,_=>by unfold RdL at ra;subst ra;exact absurd h1 (Nat.not_lt_zero _)
 | _::_,[],_,_,_,vs,_,rb,_,j,_,h2=>by unfold RdL at rb;subst rb;exact absurd h2 (Nat.not_lt_zero _)
 | d::ds,e::es,A,s,us,vs,ra,rb,hu,j,h1,h2=>by
   unfold RdL at ra rb
   obtain ⟨w,ws,rfl,a1,a2⟩:=ra
   obtain ⟨w',ws',rfl,b1,b2⟩:=rb
   unfold depL at hu
   cases j with
   | zero=>exact eqAt_D d e A s w w' a1 b1 (by omega)
   | succ j =>
     have q:=eqAt_DL ds es A s ws ws' a2 b2 (by omega) j (by simpa using h1) (by simpa using h2)
     simpa [pairD] using q
end
end PP
end
section
namespace PP
open PySem L2 PyProof.Rows PySem.SeqAt
variable [Tbs]
section
variable {X:Cx}
theorem op_eqD (hu:X.A.units+200 < cLine):OpR X (compareOp .Eq) (fun x y H Q=>∃ F a b,RelB X.K H F a x∧RelB X.K H F b y∧depOk a b = true∧Q (.bl (eqD a b)) H):=by
 intro pins s σ H x y v u Q I rx ry h
 obtain ⟨F,a,b,ha,hb,hk,q⟩:=h
 have ra:=rdB_of I ha rx
 have rb:=rdB_of I hb ry
 unfold depOk at hk
 rw [Bool.and_eq_true] at hk
 obtain ⟨hk,hd⟩:=hk
 replace hd:=of_decide_eq_true hd
 have fin:∀ k:Bool,k = eqD a b→EP X pins σ Q (.bool k) s:=fun k e=>⟨.bl k,H,I,rfl,by rw [e];exact q⟩
 cases a<;>cases b<;>first
  | (exact absurd (show false = true from hk) Bool.false_ne_true)
  | skip
 · unfold RdV at ra rb;subst ra;subst rb
   exact RcAt.bool_bool _ _ _ _ _ _ (fin _ (by unfold eqD;rfl))
 · unfold RdV at ra rb;obtain ⟨t,rfl⟩:=ra;obtain ⟨t',rfl⟩:=rb
   exact RcAt.int_int _ _ _ _ _ _ _ _ (fin _ (by unfold eqD;rfl))
 · unfold RdV at ra rb;obtain ⟨t,rfl⟩:=ra;obtain ⟨t',rfl⟩:=rb
   exact RcAt.str_str _ _ _ _ _ _ _ _ (fin _ (by unfold eqD;rfl))
 · rename_i ds es
   unfold RdV at ra rb;obtain ⟨l,its,rfl,h1,h2⟩:=ra;obtain ⟨l',its',rfl,k1,k2⟩:=rb
   have n1:its.size = ds.length:=by simpa using h2.length
   have n2:its'.size = es.length:=by simpa using k2.length
   have he:∀ j (j1:j < its.size) (j2:j < its'.size),EqAt X.A.in1 s its[j] its'[j] (pairD ds es j):=fun j j1 j2=>by
    have q:=eqAt_DL ds es X.A.in1 s its.toList its'.toList h2 k2 (by show X.A.units+1+_ < _;unfold dep at hd;omega) j (by simpa using j1) (by simpa using j2)
    simpa using q
   by_cases hsz:its.size = its'.size
   · refine eq_listAt h1 k1 hsz (by omega) he (fin _ ?_)
     unfold eqD
     rw [n1]
     exact eqDs_len (by omega)
   · refine eq_list_lengthsAt h1 k1 (by simpa using hsz) (by omega) (fin _ ?_)
     unfold eqD
     exact (eqDs_ne (by omega)).symm
 · rename_i ds es
   unfold RdV at ra rb;obtain ⟨l,its,rfl,h1,h2⟩:=ra;obtain ⟨l',its',rfl,k1,k2⟩:=rb
   have n1:its.size = ds.length:=by simpa using h2.length
   have n2:its'.size = es.length:=by simpa using k2.length
   have he:∀ j (j1:j < its.size) (j2:j < its'.size),EqAt X.A.in1 s its[j] its'[j] (pairD ds es j):=fun j j1 j2=>by
    have q:=eqAt_DL ds es X.A.in1 s its.toList its'.toList h2 k2 (by show X.A.units+1+_ < _;unfold dep at hd;omega) j (by simpa using j1) (by simpa using j2)
    simpa using q
   refine eq_tupleAt h1 k1 (by omega) he (fin _ ?_)
   unfold eqD
   rw [n1,n2]
   exact eqDs_both ds es
theorem op_neD (hu:X.A.units+200 < cLine):OpR X (compareOp .NotEq) (fun x y H Q=>∃ F a b,RelB X.K H F a x∧RelB X.K H F b y∧depOk a b = true∧Q (.bl (!eqD a b)) H):=by
 intro pins s σ H x y v u Q I rx ry h
 obtain ⟨F,a,b,ha,hb,hk,q⟩:=h
 have ra:=rdB_of I ha rx
 have rb:=rdB_of I hb ry
 unfold depOk at hk
 rw [Bool.and_eq_true] at hk
 obtain ⟨hk,hd⟩:=hk
 replace hd:=of_decide_eq_true hd
 have fin:∀ k:Bool,k = (!eqD a b)→EP X pins σ Q (.bool k) s:=fun k e=>⟨.bl k,H,I,rfl,by rw [e];exact q⟩
 cases a<;>cases b<;>first
  | (exact absurd (show false = true from hk) Bool.false_ne_true)
  | skip
 · unfold RdV at ra rb;subst ra;subst rb
   exact RcNeAt.bool_bool _ _ _ _ _ _ (fin _ (by unfold eqD;rfl))
 · unfold RdV at ra rb;obtain ⟨t,rfl⟩:=ra;obtain ⟨t',rfl⟩:=rb
   exact RcNeAt.int_int _ _ _ _ _ _ _ _ (fin _ (by unfold eqD;rfl))
 · unfold RdV at ra rb;obtain ⟨t,rfl⟩:=ra;obtain ⟨t',rfl⟩:=rb
   exact RcNeAt.str_str _ _ _ _ _ _ _ _ (fin _ (by unfold eqD;rfl))
 · rename_i ds es
   unfold RdV at ra rb;obtain ⟨l,its,rfl,h1,h2⟩:=ra;obtain ⟨l',its',rfl,k1,k2⟩:=rb
   have n1:its.size = ds.length:=by simpa using h2.length
   have n2:its'.size = es.length:=by simpa using k2.length
   have he:∀ j (j1:j < its.size) (j2:j < its'.size),EqAt X.A.in1 s its[j] its'[j] (pairD ds es j):=fun j j1 j2=>by
    have q:=eqAt_DL ds es X.A.in1 s its.toList its'.toList h2 k2 (by show X.A.units+1+_ < _;unfold dep at hd;omega) j (by simpa using j1) (by simpa using j2)
    simpa using q
   by_cases hsz:its.size = its'.size
   · refine RcNeAt.lists h1 k1 hsz (by omega) he _ _ _ _ (fin _ ?_)
     unfold eqD
     rw [n1,eqDs_len (by omega)]
   · refine RcNeAt.lists_lengths h1 k1 (by simpa using hsz) (by omega) _ _ _ _ (fin _ ?_)
     unfold eqD
     rw [eqDs_ne (by omega)]
     rfl
 · rename_i ds es
   unfold RdV at ra rb;obtain ⟨l,its,rfl,h1,h2⟩:=ra;obtain ⟨l',its',rfl,k1,k2⟩:=rb
   have n1:its.size = ds.length:=by simpa using h2.length
   have n2:its'.size = es.length:=by simpa using k2.length
   have he:∀ j (j1:j < its.size) (j2:j < its'.size),EqAt X.A.in1 s its[j] its'[j] (pairD ds es j):=fun j j1 j2=>by
    have q:=eqAt_DL ds es X.A.in1 s its.toList its'.toList h2 k2 (by show X.A.units+1+_ < _;unfold dep at hd;omega) j (by simpa using j1) (by simpa using j2)
    simpa using q
   refine RcNeAt.tuples h1 k1 (by omega) he _ _ _ _ (fin _ ?_)
   unfold eqD
   rw [n1,n2,eqDs_both ds es]
open Classical in
def isEq (h:Heap) (a:D) (u:Value):Bool:=if ∃ d,RdV h d u∧eqD d a = true then true else false
theorem isEq_of {h:Heap} {a d:D} {u:Value} (r:RdV h d u):isEq h a u = eqD d a:=by
 unfold isEq
 cases e:eqD d a with
 | true=>rw [if_pos ⟨d,r,e⟩]
 | false =>
   rw [if_neg]
   rintro ⟨d',r',e'⟩
   rw [RdV.inj d d' u r r',e'] at e
   cases e
theorem any_isEq {h:Heap} {a:D}:∀ {ds:List D} {us:List Value},RdL h ds us→us.any (isEq h a) = ds.any fun d=>eqD d a
 | [],us,r=>by unfold RdL at r;subst r;rfl
 | d::ds,us,r=>by
   unfold RdL at r;obtain ⟨w,ws,rfl,h1,h2⟩:=r
   rw [List.any_cons,List.any_cons,isEq_of h1,any_isEq h2]
theorem mem_isEq {A:Around} {s:Shared} {a:D} {v:Value} (rv:RdV s.heap a v) (hu:A.units+dep a < cLine):∀ {ds:List D} {us:List Value},RdL s.heap ds us→∀ u∈us,EqAt A s u v (isEq s.heap a u)
 | [],us,r=>fun u hm=>by unfold RdL at r;subst r;cases hm
 | d::ds,us,r=>fun u hm=>by
   unfold RdL at r;obtain ⟨w,ws,rfl,h1,h2⟩:=r
   rcases List.mem_cons.mp hm with rfl | hm
   · rw [isEq_of h1]
     exact eqAt_D d a A s u v h1 rv (by omega)
   · exact mem_isEq rv hu h2 u hm
theorem op_inD (hu:X.A.units+200 < cLine):OpR X (compareOp .In) (fun x y H Q=>∃ F a ds,RelB X.K H F a x∧(RelB X.K H F (.lst ds) y∨RelB X.K H F (.tup ds) y)∧dep a≤150∧Q (.bl (ds.any fun d=>eqD d a)) H):=by
 intro pins s σ H x y v u Q I rx ry h
 obtain ⟨F,a,ds,ha,hb,hd,q⟩:=h
 have ra:=rdB_of I ha rx
 have fin:∀ k:Bool,k = (ds.any fun d=>eqD d a)→EP X pins σ Q (.bool k) s:=fun k e=>⟨.bl k,H,I,rfl,by rw [e];exact q⟩
 rcases hb with hb | hb
 · have rb:=rdB_of I hb ry
   unfold RdV at rb;obtain ⟨l',its',rfl,k1,k2⟩:=rb
   refine in_listAt (isEq s.heap a) k1 (fun w hw=>mem_isEq ra (by show X.A.units+1+_ < _;omega) k2 w (by simpa using hw)) (fin _ ?_)
   rw [show its'.any (isEq s.heap a) = its'.toList.any (isEq s.heap a) by simp,any_isEq k2]
 · have rb:=rdB_of I hb ry
   unfold RdV at rb;obtain ⟨l',its',rfl,k1,k2⟩:=rb
   refine in_tupleAt (isEq s.heap a) k1 (fun w hw=>mem_isEq ra (by show X.A.units+1+_ < _;omega) k2 w (by simpa using hw)) (fin _ ?_)
   rw [show its'.any (isEq s.heap a) = its'.toList.any (isEq s.heap a) by simp,any_isEq k2]
theorem op_notInD (hu:X.A.units+200 < cLine):OpR X (compareOp .NotIn) (fun x y H Q=>∃ F a ds,RelB X.K H F a x∧(RelB X.K H F (.lst ds) y∨RelB X.K H F (.tup ds) y)∧dep a≤150∧Q (.bl (!ds.any fun d=>eqD d a)) H):=by
 intro pins s σ H x y v u Q I rx ry h
 obtain ⟨F,a,ds,ha,hb,hd,q⟩:=h
 have ra:=rdB_of I ha rx
 have fin:∀ k:Bool,k = (!ds.any fun d=>eqD d a)→EP X pins σ Q (.bool k) s:=fun k e=>⟨.bl k,H,I,rfl,by rw [e];exact q⟩
 rcases hb with hb | hb
 · have rb:=rdB_of I hb ry
   unfold RdV at rb;obtain ⟨l',its',rfl,k1,k2⟩:=rb
   refine notIn_listAt (isEq s.heap a) k1 (fun w hw=>mem_isEq ra (by show X.A.units+1+_ < _;omega) k2 w (by simpa using hw)) (fin _ ?_)
   rw [show its'.any (isEq s.heap a) = its'.toList.any (isEq s.heap a) by simp,any_isEq k2]
 · have rb:=rdB_of I hb ry
   unfold RdV at rb;obtain ⟨l',its',rfl,k1,k2⟩:=rb
   refine notIn_tupleAt (isEq s.heap a) k1 (fun w hw=>mem_isEq ra (by show X.A.units+1+_ < _;omega) k2 w (by simpa using hw)) (fin _ ?_)
   rw [show its'.any (isEq s.heap a) = its'.toList.any (isEq s.heap a) by simp,any_isEq k2]
theorem vals_int {ns:List Int}:∀ {xs:List V} {us:List Value},xs = ns.map V.int→Vals xs us→∀ i v,us[i]? = some v→∃ t,v = Value.int (ns.getD i 0) t:=by
 induction ns with
 | nil=>intro xs us e r i v h;subst e;cases r;simp at h
 | cons n ns ih =>
   intro xs us e r i v h
   subst e
   cases r with
   | cons r1 r2 =>
     cases i with
     | zero=>simp at h;subst h;obtain ⟨t,e⟩:=r1;exact ⟨t,by simpa using e⟩
     | succ i =>
       obtain ⟨t,e⟩:=ih rfl r2 i v (by simpa using h)
       exact ⟨t,by simpa using e⟩
theorem topI_snoc {ns:List Int} {v:Int} (h:ns≠[]):topI (ns++[v]) = if v > topI ns then v else topI ns:=by
 cases ns with
 | nil=>exact absurd rfl h
 | cons n ns =>
   show (ns++[v]).foldl _ n = _
   rw [List.foldl_append]
   rfl
theorem best_top (ns:List Int):∀ k,k < ns.length→ns.getD (argBest (fun i j=>decide (ns.getD i 0 > ns.getD j 0)) k) 0 = topI (ns.take (k+1))
 | 0,h=>by
   cases ns with
   | nil=>cases h
   | cons n ns=>simp [argBest,topI]
 | k+1,h=>by
   have ih:=best_top ns k (by omega)
   have e:ns[k+1]? = some (ns.getD (k+1) 0):=by rw [List.getD_eq_getElem?_getD,List.getElem?_eq_getElem h];rfl
   have e2:ns.take (k+1+1) = ns.take (k+1)++[ns.getD (k+1) 0]:=by rw [List.take_add_one,e];rfl
   rw [e2,topI_snoc (by cases ns with
    | nil=>cases h
    | cons _ _=>simp),← ih]
   show ns.getD (if decide (ns.getD (k+1) 0 > ns.getD (argBest (fun i j=>decide (ns.getD i 0 > ns.getD j 0)) k) 0) = true then k+1 else argBest (fun i j=>decide (ns.getD i 0 > ns.getD j 0)) k) 0 = _
   by_cases hb:ns.getD (k+1) 0 > ns.getD (argBest (fun i j=>decide (ns.getD i 0 > ns.getD j 0)) k) 0
   · rw [if_pos (decide_eq_true hb),if_pos hb]
   · rw [if_neg (by simpa using hb),if_neg hb]
theorem call_maxL (hc:X.calm = true):CallR X (.builtin "max") (fun xs H Q=>∃ (p:Addr) (ns:List Int),xs = [.ref p]∧ns≠[]∧SqL X.K H p (ns.map V.int)∧Q (.int (topI ns)) H):=by
 intro pins s σ H xs us Q I r h
 obtain ⟨p,ns,rfl,hne,hq,q⟩:=h
 obtain ⟨u,rfl,rx⟩:=vals1 r
 cases rx
 obtain ⟨its,rv,pl,hz⟩:=I.list hq
 have hlt:p < s.heap.objs.size:=by obtain ⟨o,e,_⟩:=pl.isList;exact Heap.lt_size e
 have hlen:its.toArray.size = ns.length:=by rw [List.size_toArray,← rv.length,List.length_map]
 have hpos:0 < ns.length:=List.length_pos_iff.mpr hne
 have hval:∀ i v,its.toArray[i]? = some v→∃ t,v = Value.int (ns.getD i 0) t:=fun i v e=>vals_int rfl rv i v (by simpa using e)
 refine call_max_walk (wpAny_pyIter_list pl.isList ?_)
 refine ⟨s.heap.objs.size,[s.heap.objs.size,p],[s.heap.objs.size],its.toArray.size,_,_,fun i j=>decide (ns.getD i 0 > ns.getD j 0),rfl,Walks.list (A:=X.A.in1) (I.ok.hd hc) s.heap.objs.size p (Nat.ne_of_lt hlt) its.toArray,
  ⟨⟨_,Heap.get?_push_size _ rfl,rfl,rfl⟩,?_⟩,fun b hb=>?_,by rw [hlen];exact hpos,CmpOf.ints_gt (fun i=>ns.getD i 0) hval,fun v h' tk hv hk=>?_⟩
 · obtain ⟨o,e,r⟩:=pl.isList
   exact ⟨o,Heap.get?_push_of_some _ e,r⟩
 · have:b = s.heap.objs.size∨b = p:=by simpa using hb
   show b < (s.heap.push _).objs.size
   rw [Heap.size_push]
   rcases this with rfl | rfl
   · exact Nat.lt_succ_self _
   · exact Nat.lt_succ_of_lt hlt
 · refine ⟨.int (topI ns),H,I.kept (h':=h') (t':=tk) fun b o e=>?_,?_,q⟩
   · exact hk b o (by simp;exact Nat.ne_of_lt (Heap.lt_size e)) (Heap.get?_push_of_some _ e)
   · obtain ⟨t,rfl⟩:=hval _ _ hv
     refine ⟨t,?_⟩
     rw [best_top ns _ (by omega),hlen,show ns.length - 1+1 = ns.length by omega,List.take_length]
def tyName:Blt→Option String
 | .isInt=>some "int" | .isBool=>some "bool" | .isList=>some "list"
 | _=>none
theorem call_isD {f:Blt} {T:String} (hT:tyName f = some T):CallR X (.builtin "isinstance") (fun xs H Q=>∃ F d x b,RelB X.K H F d x∧xs = [x,.ty T]∧bltD f [d] = some (.bl b)∧Q (.bl b) H):=by
 intro pins s σ H xs us Q I r h
 obtain ⟨F,d,x,b,hr,rfl,hb,q⟩:=h
 obtain ⟨u,w',rfl,ru,rw'⟩:=vals2 r
 cases (show w' = Value.type T from rw')
 have rd:=rdB_of I hr ru
 have fin:∀ tk,EP X pins σ Q (.bool b) { s with toks:=tk }:=fun tk=>⟨.bl b,H,I.tok tk,rfl,q⟩
 cases d with
 | non=>unfold RdV at rd;subst rd;cases f<;>simp [tyName] at hT<;>subst hT<;>simp [bltD,isIntD,isBoolD,isListD] at hb<;>subst hb<;>exact PySem.W.kia_one PySem.W.kitx_none I.kIn True.intro rfl (fun z=>nomatch z) fin
 | bl y=>unfold RdV at rd;subst rd;cases f<;>simp [tyName] at hT<;>subst hT<;>simp [bltD,isIntD,isBoolD,isListD] at hb<;>subst hb<;>exact PySem.W.kia_one PySem.W.kitx_bool I.kIn True.intro rfl (fun z=>nomatch z) fin
 | int y=>unfold RdV at rd;obtain ⟨t,rfl⟩:=rd;cases f<;>simp [tyName] at hT<;>subst hT<;>simp [bltD,isIntD,isBoolD,isListD] at hb<;>subst hb<;>exact PySem.W.kia_one PySem.W.kitx_int I.kIn True.intro rfl (fun z=>nomatch z) fin
 | str y=>unfold RdV at rd;obtain ⟨t,rfl⟩:=rd;cases f<;>simp [tyName] at hT<;>subst hT<;>simp [bltD,isIntD,isBoolD,isListD] at hb<;>subst hb<;>exact PySem.W.kia_one PySem.W.kitx_str I.kIn True.intro rfl (fun z=>nomatch z) fin
 | lst y =>
   unfold RdV at rd;obtain ⟨l,its,rfl,⟨o,h1,h2,_⟩,_⟩:=rd
   cases f<;>simp [tyName] at hT<;>subst hT<;>simp [bltD,isIntD,isBoolD,isListD] at hb<;>subst hb<;>exact PySem.W.kia_one PySem.W.kitx_list I.kIn ⟨o,h1,h2⟩ rfl (fun z=>nomatch z) fin
 | tup y =>
   unfold RdV at rd;obtain ⟨l,its,rfl,⟨o,h1,h2,_⟩,_⟩:=rd
   cases f<;>simp [tyName] at hT<;>subst hT<;>simp [bltD,isIntD,isBoolD,isListD] at hb<;>subst hb<;>exact PySem.W.kia_one PySem.W.kitx_tuple I.kIn ⟨o,h1,h2⟩ rfl (fun z=>nomatch z) fin
 | fn _ _=>unfold RdV at rd;exact rd.elim
def Its (x:Str):L2.It:=⟨fun i _=>i < x.cps.size,fun i H v H'=>H' = H∧∃ c,x.cps[i]? = some c∧v = .str ⟨#[c]⟩,fun i _=>i = x.cps.size⟩
theorem turn_walks {P:Program} {w:World} {K:PySem.W.Frag} {tg:Expr} {it:Addr} {n:Nat} {PV:Nat→Value→Prop} {St:Nat→Heap→Prop} {J:L2.It} {ty:String}
 (W:∀ A:Around,A.handled = none→Walks P w A it [it] [it] n PV St) (hst:∀ i h,St i h→∃ (o:Obj) (vs:Array Value),h.get? it = some o∧o.cls = .type ty∧o.data = .fields vs)
 (hn:["enumerate","zip","dict_itemiterator","dict_reverseitemiterator","odict_iterator","itertools.zip_longest","itertools.pairwise"].contains ty = false)
 (go:∀ i H,J.go i H→i < n) (stop:∀ i H,J.stop i H→i = n) (yld:∀ i v H,PV i v→∃ x,RelV x v∧J.yld i H x H)
 (self:∀ (A:Around) (i:Nat) (s:Shared) (Q:Value→Shared→Prop) (E:Value→Shared→Prop),St i s.heap→Q (.ref it) s→wpAny (model P w) A (pyIter (.ref it)) Q E s) :
 Turn P w K tg J [it] it St where
 mem:=by simp
 obj:=fun i h st b hb=>by
  have e:b = it:=by simpa using hb
  subst e
  obtain ⟨o,vs,e,c,d⟩:=hst i h st
  exact ⟨o,e,fun v z=>by rw [d] at z;cases z⟩
 keep:=fun i h h' st k=>(W { } rfl).frame i h h' st k
 item:=by
  intro X hP hw hK hc i pins s σ H E I hf st hg
  subst hP hw hK
  obtain ⟨f0,f1,f2,f3,f4,f5⟩:=hf it (by simp)
  refine (W X.A (I.ok.hd hc)).item i s _ _ (go i H hg) st fun v h' tk hv st' kk=>?_
  have I1:Inv X pins σ H { s with heap:=h',toks:=tk }:=I.turned (fun b o hb e=>kk b o (by simpa using hb) e) f0 f1 f3 f4 f5
  obtain ⟨o,vs,e,c,d⟩:=hst _ _ st'
  obtain ⟨x,r,y⟩:=yld i v H hv
  exact ⟨v,rfl,go_of (s:={ s with heap:=h',toks:=tk }) e c d hn ⟨x,H,I1,r,y,st',fun b hb=>(hf b hb).1⟩⟩
 done:=by
  intro X hP hw hK hc i pins s σ H E I hf st hg
  subst hP hw hK
  obtain ⟨f0,f1,f2,f3,f4,f5⟩:=hf it (by simp)
  have e:=stop i H hg
  subst e
  exact (W X.A (I.ok.hd hc)).done s _ _ st fun h' tk kk=>⟨rfl,I.turned (fun b o hb e=>kk b o (by simpa using hb) e) f0 f1 f3 f4 f5⟩
 self:=self
theorem turn_str {P:Program} {w:World} {K:PySem.W.Frag} {tg:Expr} (it:Addr) (x:Str) (t:Tok):Turn P w K tg (Its x) [it] it (fun i h=>h.IsStrIter it (strIterType x) x t i):=by
 unfold strIterType
 split
 · exact turn_walks (ty:="str_ascii_iterator") (fun A hA=>Walks.strAscii hA it x t) (fun i h ⟨o,e,c,d⟩=>⟨o,_,e,c,d⟩) (by decide) (fun i H z=>z) (fun i H z=>z) (fun i v H ⟨c,u,h1,h2⟩=>⟨.str ⟨#[c]⟩,⟨u,h2⟩,rfl,c,h1,rfl⟩) fun _ _ _ _ _ st h=>wpAny_pyIter_striter_ascii st h
 · exact turn_walks (ty:="str_iterator") (fun A hA=>Walks.strWide hA it x t) (fun i h ⟨o,e,c,d⟩=>⟨o,_,e,c,d⟩) (by decide) (fun i H z=>z) (fun i H z=>z) (fun i v H ⟨c,u,h1,h2⟩=>⟨.str ⟨#[c]⟩,⟨u,h2⟩,rfl,c,h1,rfl⟩) fun _ _ _ _ _ st h=>wpAny_pyIter_striter_wide st h
end
end PP
end
section
namespace PP
open PySem L2 PyProof.Rows PySem.SeqAt PySem.Calls
section
variable {prog:Program} {w:World} {A:Around} {R:Result→Shared→Prop} {I:Addr} {fp wr:List Addr} {n:Nat} {P:Nat→Value→Prop} {St:Nat→Heap→Prop}
end
variable {X:Cx} [Tbs]
end PP
end
section
namespace PP
open PySem L2 PySem.SeqAt PyProof.Rows PySem.W
open AutoSeq1 (wpAny_loadPart')
open MeetsSeq MeetsSeq2 MeetsSeq3 SeqRoads2
variable [Tbs]
def LtAt (A:Around) (s:Shared) (u v:Value) (b:Bool):Prop:=∀ (prog:Program) (w:World) (E:Value→Shared→Prop) (Q:Value→Shared→Prop),Q (.bool b) s→wpAny (model prog w) A (richCompare .Lt u v) Q E s
def LexAt (A:Around) (s:Shared) (last:Bool):List (Value × Value)→Bool→Prop
 | [],b=>b = last
 | (p,q)::r,b=>∃ e,EqAt A s p q e∧if e = true then LexAt A s last r b else LtAt A s p q b
theorem tuple_ltAt (l m:Addr) (xs ys:Array Value) (n n2:Nat) (dd dd2:Option Addr) (sl sl2:Array (Option Value)) (b:Bool) :
 Meets (Builtin.«tuple.__lt__» ⟨[.ref l,.ref m],[]⟩)
  (fun A R s=>s.heap.get? l = some ⟨.type "tuple",dd,.seq xs n,sl⟩∧s.heap.get? m = some ⟨.type "tuple",dd2,.seq ys n2,sl2⟩ ∧
    LexAt A.in1 s (decide (xs.size < ys.size)) (xs.toList.zip ys.toList) b∧R (.ok (.ret (.bool b))) s) :=
 .of_wp fun prog w A R s h=>by
  obtain ⟨h0,g0,d0,t0,o0⟩:=s
  obtain ⟨hx,hy,hlex,hR⟩:=h
  have sub:=AutoSeq1.sub_tuple_tuple
  wp_walk using wpAny_loadPart' hx,wpAny_loadPart' hy,wpAny_forIn_list _ (fun rest st s'=>st.1 = none∧s' = ⟨h0,g0,d0,t0,o0⟩∧LexAt A.in1 ⟨h0,g0,d0,t0,o0⟩ (decide (xs.size < ys.size)) rest b) _
  case turn =>
   rintro ⟨y,x⟩ rest st s' ⟨hst,rfl,e,he,hr⟩
   refine wpAny_bind (he prog w _ _ ?_)
   cases e with
   | true =>
     rw [if_pos rfl] at hr
     wp_walk
     exact ⟨rfl,rfl,hr⟩
   | false =>
     rw [if_neg Bool.false_ne_true] at hr
     have hr':∀ {Q:Value→Shared→Prop} {E:Value→Shared→Prop},Q (.bool b) ⟨h0,g0,d0,t0,o0⟩→wpAny (model prog w) A.in1 (richCompare .Lt y x) Q E ⟨h0,g0,d0,t0,o0⟩:=fun {Q E} h=>hr prog w E Q h
     wp_walk using hr'
     exact ⟨_,rfl,hR⟩
  case fin =>
   rintro ⟨b1,b2⟩ s' ⟨hst,rfl,hl⟩
   simp only at hst
   subst hst
   have hl:b = decide (xs.size < ys.size):=hl
   wp_walk
   refine ⟨_,rfl,?_⟩
   have:Builtin.Tuple.tupleCompareSizes .Lt xs.size ys.size = .bool b:=by rw [hl];rfl
   rw [this]
   exact hR
  case h=>exact ⟨rfl,rfl,hlex⟩
theorem LtAt.tuples {A:Around} {s:Shared} {l m:Addr} {xs ys:Array Value} {b:Bool} (hx:s.heap.IsTuple l xs) (hy:s.heap.IsTuple m ys) (hu:A.units < cLine) (h:LexAt A.in1 s (decide (xs.size < ys.size)) (xs.toList.zip ys.toList) b):LtAt A s (.ref l) (.ref m) b:=by
 intro prog w E Q q
 obtain ⟨⟨c1,d1,t1,s1⟩,e1,k1,n1,f1⟩:=hx
 obtain ⟨⟨c2,d2,t2,s2⟩,e2,k2,n2,f2⟩:=hy
 have k1:c1 = _:=k1
 have f1:t1 = _:=f1
 have k2:c2 = _:=k2
 have f2:t2 = _:=f2
 subst k1 f1 k2 f2
 have nn:Value.bool b≠Value.notImplemented:=fun z=>nomatch z
 exact richCompare_meets_room (op:=.Lt) ⟨_,e1,rfl⟩ ⟨_,e2,rfl⟩ F.slot_tuple_lt F.entry_tuple_lt (F.args_tuple_lt_2 _ _) (tuple_ltAt l m xs ys n1 n2 d1 d2 s1 s2 b) ⟨e1,e2,h,(show Value.bool b≠Value.notImplemented∧Q (.bool b) s from ⟨nn,q⟩)⟩ hu
mutual
theorem ltAt_D:∀ (a b:D) (A:Around) (s:Shared) (u v:Value) (k:Bool),RdV s.heap a u→RdV s.heap b v→A.units+min (dep a) (dep b)+1 < cLine→ltD a b = some k→LtAt A s u v k
 | .int a,b,A,s,u,v,k,ra,rb,hu,h=>by
   cases b with
   | int b =>
     unfold ltD at h
     cases h
     unfold RdV at ra rb
     obtain ⟨t,rfl⟩:=ra
     obtain ⟨t',rfl⟩:=rb
     intro prog w E Q q
     exact lt_int q
   | _=>unfold ltD at h;cases h
 | .str a,b,A,s,u,v,k,ra,rb,hu,h=>by
   cases b with
   | str b =>
     unfold ltD at h
     cases h
     unfold RdV at ra rb
     obtain ⟨t,rfl⟩:=ra
     obtain ⟨t',rfl⟩:=rb
     intro prog w E Q q
     exact lt_str q
   | _=>unfold ltD at h;cases h
 | .tup a,b,A,s,u,v,k,ra,rb,hu,h=>by
   cases b with
   | tup b =>
     unfold ltD at h
     unfold RdV at ra rb
     obtain ⟨l,xs,rfl,h1,h2⟩:=ra
     obtain ⟨m,ys,rfl,k1,k2⟩:=rb
     have n1:xs.size = a.length:=by simpa using h2.length
     have n2:ys.size = b.length:=by simpa using k2.length
     refine LtAt.tuples h1 k1 (by omega) ?_
     rw [n1,n2]
     unfold dep at hu
     exact lexAt_DL a b A.in1 s xs.toList ys.toList k h2 k2 (by show A.units+1+_+1 < _;omega) h
   | _=>unfold ltD at h;cases h
 | .non,b,A,s,u,v,k,ra,rb,hu,h=>by cases b<;>(unfold ltD at h;cases h)
 | .bl x,b,A,s,u,v,k,ra,rb,hu,h=>by cases b<;>(unfold ltD at h;cases h)
 | .lst x,b,A,s,u,v,k,ra,rb,hu,h=>by cases b<;>(unfold ltD at h;cases h)
 | .fn x y,b,A,s,u,v,k,ra,rb,hu,h=>by cases b<;>(unfold ltD at h;cases h)
theorem lexAt_DL:∀ (as bs:List D) (A:Around) (s:Shared) (us vs:List Value) (k:Bool),RdL s.heap as us→RdL s.heap bs vs→A.units+min (depL as) (depL bs)+1 < cLine→ltDs as bs = some k→LexAt A s (decide (as.length < bs.length)) (us.zip vs) k
 | [],[],A,s,us,vs,k,ra,rb,hu,h=>by
   unfold RdL at ra rb
   subst ra;subst rb
   unfold ltDs at h
   cases h
   rfl
 | [],y::ys,A,s,us,vs,k,ra,rb,hu,h=>by
   unfold RdL at ra
   subst ra
   unfold ltDs at h
   cases h
   show true = decide _
   simp
 | x::xs,[],A,s,us,vs,k,ra,rb,hu,h=>by
   unfold RdL at rb
   subst rb
   unfold ltDs at h
   cases h
   rw [List.zip_nil_right]
   show false = decide _
   simp
 | x::xs,y::ys,A,s,us,vs,k,ra,rb,hu,h=>by
   unfold RdL at ra rb
   obtain ⟨u,us',rfl,ra1,ra2⟩:=ra
   obtain ⟨v,vs',rfl,rb1,rb2⟩:=rb
   unfold ltDs at h
   unfold depL at hu
   refine ⟨eqD x y,eqAt_D x y A s u v ra1 rb1 (by omega),?_⟩
   cases e:eqD x y with
   | true =>
     rw [e,if_pos rfl] at h
     rw [if_pos rfl]
     have:=lexAt_DL xs ys A s us' vs' k ra2 rb2 (by omega) h
     have e1:decide ((x::xs).length < (y::ys).length) = decide (xs.length < ys.length):=by simp
     rw [e1]
     exact this
   | false =>
     rw [e,if_neg Bool.false_ne_true] at h
     rw [if_neg Bool.false_ne_true]
     exact ltAt_D x y A s u v k ra1 rb1 (by omega) h
end
theorem op_ltD {X:Cx} (hu:X.A.units+200 < cLine):OpR X (compareOp .Lt) (fun x y H Q=>∃ F a b k,RelB X.K H F a x∧RelB X.K H F b y∧ltOk a b = some k∧Q (.bl k) H):=by
 intro pins s σ H x y v u Q I rx ry h
 obtain ⟨F,a,b,k,ha,hb,e,q⟩:=h
 unfold ltOk at e
 split at e
 · exact ltAt_D a b X.A s v u k (rdB_of I ha rx) (rdB_of I hb ry) (by omega) e X.prog X.w X.xe _ ⟨.bl k,H,I,rfl,q⟩
 · cases e
theorem op_catR {X:Cx}:OpR X (binaryOp .Add) (fun x y H Q=>∃ l b xs zs,x = .ref l∧y = .ref b∧LsB X.K H l xs∧LsB X.K H b zs∧xs.length+zs.length≤sizeLine∧∀ p,H p = none→Q (.ref p) (upd H p (.lst (xs++zs)))):=by
 intro pins s σ H x y v u Q I rx ry h
 obtain ⟨l,b,xs,zs,rfl,rfl,h1,h2,hz,q⟩:=h
 cases rx
 cases ry
 obtain ⟨i1,n1,r1,e1,z1⟩:=h1.obj I
 obtain ⟨i2,n2,r2,e2,z2⟩:=h2.obj I
 have l1:=r1.length
 have l2:=r2.length
 refine PySem.P.add_list e1 e2 ?_ (by simp only [List.size_toArray];omega)
 rw [show i1.toArray++i2.toArray = (i1++i2).toArray by simp]
 exact ⟨.ref _,_,I.lnew (t':=s.toks) (r1.append r2) (by rw [List.length_append];omega),rfl,q _ I.fresh⟩
end PP
end
section
namespace PP
open PySem PySem.W PyProof.Rows
def inR {α:Type} (lt:Nat→Nat→Bool) (n:Nat):KasT α→Prop
 | .ret _=>True
 | .ask i j k=>i < n∧j < n∧inR lt n (k (lt i j))
theorem inR_bind {α β:Type} {lt:Nat→Nat→Bool} {n:Nat} {f:α→KasT β}:∀ {t:KasT α},inR lt n t→inR lt n (f (ans lt t))→inR lt n (t.bind f)
 | .ret a,_,h=>h
 | .ask i j k,⟨h1,h2,h3⟩,h=>⟨h1,h2,inR_bind h3 h⟩
theorem inR_if {α:Type} {lt:Nat→Nat→Bool} {n:Nat} {c:Prop} [Decidable c] {a b:KasT α} (h1:inR lt n a) (h2:inR lt n b):inR lt n (if c then a else b):=by
 by_cases h:c
 · rw [if_pos h];exact h1
 · rw [if_neg h];exact h2
def All (p:Array Nat) (n:Nat):Prop:=0 < n∧∀ x∈p,x < n
theorem All.at {p:Array Nat} {n:Nat} (h:All p n) (k:Nat):p.getD k 0 < n:=by
 rw [getD_eq]
 cases e:p[k]? with
 | none=>exact h.1
 | some x=>exact h.2 x (Array.mem_of_getElem? e)
theorem All.perm {p q:Array Nat} {n:Nat} (h:All p n) (e:q.Perm p):All q n:=⟨h.1,fun x hx=>h.2 x (e.mem_iff.mp hx)⟩
section
variable {lt:Nat→Nat→Bool} {n:Nat}
theorem asc_in {p:Array Nat} (h:All p n):∀ f k,inR lt n (kas_asc p f k)
 | 0,k=>trivial
 | f+1,k=>⟨h.at _,h.at _,inR_if trivial (asc_in h f (k+1))⟩
theorem desc_in:∀ (f:Nat) (p:Array Nat) (k q:Nat),All p n→inR lt n (kas_desc f p k q)∧All (ans lt (kas_desc f p k q)).1 n
 | 0,p,k,q,h=>⟨trivial,h⟩
 | f+1,p,k,q,h=>by
   unfold kas_desc
   have r1:=desc_in f (kas_rev p (k - (q+1)) k) (k+1) 0 (h.perm (rev_perm _ _ _))
   have r2:=desc_in f p (k+1) 0 h
   have r3:=desc_in f p (k+1) (q+1) h
   refine ⟨⟨h.at _,h.at _,inR_if (inR_if r1.1 r2.1) ⟨h.at _,h.at _,inR_if trivial r3.1⟩⟩,?_⟩
   rw [ans_ask]
   cases lt (p.getD k 0) (p.getD (k - 1) 0) with
   | true =>
     rw [if_pos rfl]
     by_cases hq:q > 0
     · rw [if_pos hq];exact r1.2
     · rw [if_neg hq];exact r2.2
   | false =>
     rw [if_neg Bool.false_ne_true,ans_ask]
     cases lt (p.getD (k - 1) 0) (p.getD k 0) with
     | true=>rw [if_pos rfl];exact h
     | false=>rw [if_neg Bool.false_ne_true];exact r3.2
theorem tail3_in {p:Array Nat} (h:All p n) (a m:Nat):inR lt n (kas_tail3 a m p)∧All (ans lt (kas_tail3 a m p)).2 n:=by
 unfold kas_tail3
 have h':=h.perm (rev_perm p 0 a)
 refine ⟨inR_bind (asc_in h' _ _) trivial,?_⟩
 rw [ans_bind,ans_ret]
 exact h'
theorem descPart_in {p:Array Nat} (h:All p n) (a m:Nat):inR lt n (kas_descPart a m p)∧All (ans lt (kas_descPart a m p)).2 n:=by
 unfold kas_descPart
 obtain ⟨d1,d2⟩:=desc_in (lt:=lt) (m - (a+1)) p (a+1) 0 h
 rw [ans_bind]
 generalize hr:ans lt (kas_desc (m - (a+1)) p (a+1) 0) = r at d2
 have t1:=tail3_in (lt:=lt) (d2.perm (rev_perm r.1 (r.2.1 - (r.2.2+1)) r.2.1)) r.2.1 m
 have t2:=tail3_in (lt:=lt) d2 r.2.1 m
 refine ⟨inR_bind d1 (by rw [hr];exact inR_if t1.1 t2.1),?_⟩
 by_cases hq:r.2.2 > 0
 · rw [if_pos hq];exact t1.2
 · rw [if_neg hq];exact t2.2
theorem count_in {p:Array Nat} (h:All p n) (m:Nat):inR lt n (kas_count m p)∧All (ans lt (kas_count m p)).2 n:=by
 unfold kas_count
 rw [ans_bind]
 have a1:=asc_in (lt:=lt) h (m - 1) 1
 generalize hk:ans lt (kas_asc p (m - 1) 1) = k
 have t1:=descPart_in (lt:=lt) (h.perm (rev_perm p 0 k)) k m
 have t2:=descPart_in (lt:=lt) h k m
 refine ⟨inR_bind a1 (by rw [hk];exact inR_if trivial (inR_if ⟨h.at _,h.at _,inR_if trivial t1.1⟩ t2.1)),?_⟩
 by_cases e:(k == m) = true
 · rw [if_pos e];exact h
 · rw [if_neg e]
   by_cases h1:k > 1
   · rw [if_pos h1,ans_ask]
     cases lt (p.getD 0 0) (p.getD (k - 1) 0) with
     | true=>rw [if_pos rfl];exact h
     | false=>rw [if_neg Bool.false_ne_true];exact t1.2
   · rw [if_neg h1];exact t2.2
theorem place_in {p:Array Nat} (h:All p n) (k:Nat):∀ f l r,inR lt n (kas_place p k f l r)
 | 0,l,r=>trivial
 | f+1,l,r=>by
   unfold kas_place
   exact inR_if trivial ⟨h.at _,h.at _,inR_if (place_in h k f _ _) (place_in h k f _ _)⟩
theorem bin_in:∀ (f:Nat) (p:Array Nat) (k:Nat),All p n→inR lt n (kas_bin f p k)
 | 0,p,k,h=>trivial
 | f+1,p,k,h=>by
   unfold kas_bin
   exact inR_bind (place_in h k _ _ _) (bin_in f _ _ (h.perm (bubble_perm _ _ _)))
theorem sort_in (hn:0 < n):inR lt n (kas_sort n):=by
 unfold kas_sort
 have h:All (List.toArray (List.range n)) n:=⟨hn,fun x hx=>by simpa using hx⟩
 obtain ⟨c1,c2⟩:=count_in (lt:=lt) h n
 exact inR_bind c1 (inR_if (bin_in _ _ _ c2) trivial)
end
theorem kas_det {α:Type} {prog:Program} {w:World} {A:Around} {κ:SortKind} {vs:List Value} {lt:Nat→Nat→Bool} {n:Nat} {s:Shared} {Q:α→Shared→Prop}
 (ha:∀ i j,i < n→j < n→∀ C:Bool→Shared→Prop,C (lt i j) s→kas_ask prog w A κ vs i j C s):∀ t:KasT α,inR lt n t→Q (ans lt t) s→t.kasWp (kas_ask prog w A κ vs) Q s
 | .ret a,_,q=>q
 | .ask i j k,⟨h1,h2,h3⟩,q=>ha i j h1 h2 _ (kas_det ha (k (lt i j)) h3 q)
def outOf (lt:Nat→Nat→Bool) (vs:List Value):List Value:=if vs.length < 2 then vs else (ans lt (kas_sort vs.length)).toList.map fun i=>vs.getD i Value.none
section
variable {prog:Program} {w:World} {A:Around} {E:Value→Shared→Prop} {s:Shared}
theorem list_sort_by {a:Addr} {vs:List Value} {n:Nat} {lt:Nat→Nat→Bool} {κ:SortKind} {P:PySem.Fin→Shared→Prop} (ho:s.heap.get? a = some (seqObj "list" vs.toArray n)) (h64:vs.length < 64)
 (hlen:(outOf lt vs).length = vs.length)
 (hk:2≤vs.length→∀ h':Heap,(∀ b o,b≠a→s.heap.get? b = some o→h'.get? b = some o)→∀ C:SortKind→Shared→Prop,C κ { s with heap:=h' }→wpAny (model prog w) A (keyKind' vs.toArray) C (fun _ _=>False) { s with heap:=h' })
 (ha:∀ h':Heap,(∀ b o,b≠a→s.heap.get? b = some o→h'.get? b = some o)→∀ i j,i < vs.length→j < vs.length→∀ C:Bool→Shared→Prop,C (lt i j) { s with heap:=h' }→kas_ask prog w A κ vs i j C { s with heap:=h' })
 (q:P (.done (.ret .none)) { s with heap:=sortedHeap s.heap a vs (outOf lt vs).toArray }):wpAny (model prog w) A (Builtin.«list.sort» ⟨[.ref a],[]⟩) P E s:=by
 have la:a < s.heap.objs.size:=Heap.lt_size ho
 obtain ⟨e1,o1⟩:∃ e1,(s.heap.update a (Obj.mapSeq fun _=>(#[]:Array Value))).get? a = some (seqObj "list" #[] e1):=⟨_,get?_update_seq ho fun _ => #[]⟩
 have o3:(((s.heap.update a (Obj.mapSeq fun _=>(#[]:Array Value))).push (seqObj "tuple" vs.toArray 0)).push (seqObj "list" #[] 0)).get? a = some (seqObj "list" #[] e1):=Heap.get?_push_of_some _ (Heap.get?_push_of_some _ o1)
 have keep:∀ b o,b≠a→s.heap.get? b = some o→(((s.heap.update a (Obj.mapSeq fun _=>(#[]:Array Value))).push (seqObj "tuple" vs.toArray 0)).push (seqObj "list" #[] 0)).get? b = some o:=fun b o hb e =>
  Heap.get?_push_of_some _ (Heap.get?_push_of_some _ ((Heap.get?_update_other _ _ (Ne.symm hb)).trans e))
 have sz:(outOf lt vs).toArray.size≤sizeLine:=by rw [List.size_toArray,hlen,sizeLine_eq];omega
 rw [list_sort_plain]
 refine wpAny_bind (listItems_at ho rfl (wpAny_bind (listUpdate_at ho rfl ?_ (by rw [List.size_toArray,sizeLine_eq];omega) (Nat.zero_le _))))
 refine wpAny_bind (seqEpoch_at o1 rfl (wpAny_bind (wpAny_newTuple ?_ (by show vs.length≤_;rw [sizeLine_eq];omega))))
 refine wpAny_bind (wpAny_newList (wpAny_holding ?_) (Nat.zero_le _))
 show wpAny (model prog w) A _ P E { s with heap:=((s.heap.update a (Obj.mapSeq fun _=>(#[]:Array Value))).push (seqObj "tuple" vs.toArray 0)).push (seqObj "list" #[] 0) }
 dsimp only
 by_cases h2:vs.toArray.size < 2
 · have hv:vs.length < 2:=by simpa using h2
   have eo:outOf lt vs = vs:=by unfold outOf;rw [if_pos hv]
   rw [if_pos h2,if_pos h2]
   refine wpAny_bind (wpAny_pure ?_)
   rw [StateT.run_pure]
   refine wpAny_bind (wpAny_pure ?_)
   dsimp only
   refine wpAny_bind (seqEpoch_at o3 rfl ?_)
   have em:(arrOf (SortSt.mk' general' (vs.toArray.zip vs.toArray) #[] 7 none)).map (·.2) = (outOf lt vs).toArray:=by
    rw [eo]
    show (vs.toArray.zip vs.toArray).map (·.2) = vs.toArray
    apply Array.ext
    · simp
    · intro i h1 h2
      simp
   rw [em]
   refine wpAny_bind (listUpdate_at o3 rfl ?_ (Nat.zero_le _) (Nat.le_succ_of_le sz))
   simp only [bne_self_eq_false,Bool.false_eq_true,if_false]
   exact wpAny_pure q
 · have hv:¬ vs.length < 2:=by simpa using h2
   have eo:outOf lt vs = (ans lt (kas_sort vs.length)).toList.map fun i=>vs.getD i Value.none:=by unfold outOf;rw [if_neg hv]
   rw [if_neg h2,if_neg h2]
   refine wpAny_bind (wpAny_mono (hk (by omega) _ keep (fun κ' s'=>κ' = κ∧s' = { s with heap:=((s.heap.update a (Obj.mapSeq fun _=>(#[]:Array Value))).push (seqObj "tuple" vs.toArray 0)).push (seqObj "list" #[] 0) }) ⟨rfl,rfl⟩) (fun κ' s0 hk=>?_) fun _ _ x=>x.elim)
   obtain ⟨rfl,rfl⟩:=hk
   refine wpAny_bind (wpAny_mono (kat_run (Q:=fun st' s'=>s' = { s with heap:=((s.heap.update a (Obj.mapSeq fun _=>(#[]:Array Value))).push (seqObj "tuple" vs.toArray 0)).push (seqObj "list" #[] 0) }∧∃ p:Array Nat,arrOf st' = p.map (kas_item (vs.toArray.zip vs.toArray))∧failedOf st' = none∧p = ans lt (kas_sort vs.length))
    (G:=fun p s'=>s' = { s with heap:=((s.heap.update a (Obj.mapSeq fun _=>(#[]:Array Value))).push (seqObj "tuple" vs.toArray 0)).push (seqObj "list" #[] 0) }∧p = ans lt (kas_sort vs.length)) rfl (by omega) h64 (fun p st' s' a1 a2 a3 a4=>⟨a4.1,p,a2,a3,a4.2⟩)
    (kas_det (lt:=lt) (n:=vs.length) (fun i j h1 h2 C hc=>ha _ keep i j h1 h2 C hc) _ (sort_in (by omega)) ⟨rfl,rfl⟩)) ?_ fun _ _ e=>e)
   rintro ⟨⟨⟩,st'⟩ s' ⟨rfl,p,har,hf,rfl⟩
   dsimp only
   rw [kat_snds rfl har,← eo]
   refine wpAny_bind (seqEpoch_at o3 rfl (wpAny_bind (listUpdate_at o3 rfl ?_ (Nat.zero_le _) (Nat.le_succ_of_le sz))))
   rw [hf]
   simp only [bne_self_eq_false,Bool.false_eq_true,if_false]
   exact wpAny_pure q
end
end PP
end
section
namespace PP
open PySem L2 PySem.SeqAt PyProof.Rows PySem.W
variable [Tbs]
section
variable {lt:Nat→Nat→Bool}
theorem desc_perm:∀ (f:Nat) (p:Array Nat) (k q:Nat),(ans lt (kas_desc f p k q)).1.Perm p
 | 0,p,k,q=>Array.Perm.refl _
 | f+1,p,k,q=>by
   unfold kas_desc
   rw [ans_ask]
   cases lt (p.getD k 0) (p.getD (k - 1) 0) with
   | true =>
     rw [if_pos rfl]
     by_cases hq:q > 0
     · rw [if_pos hq];exact (desc_perm f _ _ _).trans (rev_perm _ _ _)
     · rw [if_neg hq];exact desc_perm f _ _ _
   | false =>
     rw [if_neg Bool.false_ne_true,ans_ask]
     cases lt (p.getD (k - 1) 0) (p.getD k 0) with
     | true=>rw [if_pos rfl];exact Array.Perm.refl _
     | false=>rw [if_neg Bool.false_ne_true];exact desc_perm f _ _ _
theorem tail3_perm (a m:Nat) (p:Array Nat):(ans lt (kas_tail3 a m p)).2.Perm p:=by
 unfold kas_tail3
 rw [ans_bind,ans_ret]
 exact rev_perm _ _ _
theorem descPart_perm (a m:Nat) (p:Array Nat):(ans lt (kas_descPart a m p)).2.Perm p:=by
 unfold kas_descPart
 rw [ans_bind]
 have d:=desc_perm (lt:=lt) (m - (a+1)) p (a+1) 0
 generalize ans lt (kas_desc (m - (a+1)) p (a+1) 0) = r at d
 by_cases hq:r.2.2 > 0
 · rw [if_pos hq];exact ((tail3_perm _ _ _).trans (rev_perm _ _ _)).trans d
 · rw [if_neg hq];exact (tail3_perm _ _ _).trans d
theorem count_perm (m:Nat) (p:Array Nat):(ans lt (kas_count m p)).2.Perm p:=by
 unfold kas_count
 rw [ans_bind]
 generalize ans lt (kas_asc p (m - 1) 1) = k
 by_cases e:(k == m) = true
 · rw [if_pos e];exact Array.Perm.refl _
 · rw [if_neg e]
   by_cases h1:k > 1
   · rw [if_pos h1,ans_ask]
     cases lt (p.getD 0 0) (p.getD (k - 1) 0) with
     | true=>rw [if_pos rfl];exact Array.Perm.refl _
     | false=>rw [if_neg Bool.false_ne_true];exact (descPart_perm _ _ _).trans (rev_perm _ _ _)
   · rw [if_neg h1];exact descPart_perm _ _ _
theorem bin_perm:∀ (f:Nat) (p:Array Nat) (k:Nat),(ans lt (kas_bin f p k)).Perm p
 | 0,p,k=>Array.Perm.refl _
 | f+1,p,k=>by
   unfold kas_bin
   rw [ans_bind]
   exact (bin_perm f _ _).trans (bubble_perm _ _ _)
theorem sort_perm (n:Nat):(ans lt (kas_sort n)).Perm (List.toArray (List.range n)):=by
 unfold kas_sort
 rw [ans_bind]
 have c:=count_perm (lt:=lt) n (List.toArray (List.range n))
 generalize ans lt (kas_count n (List.toArray (List.range n))) = r at c
 by_cases h:r.1 < n
 · rw [if_pos h];exact (bin_perm _ _ _).trans c
 · rw [if_neg h];exact c
theorem sort_list (n:Nat):(ans lt (kas_sort n)).toList.Perm (List.range n):=by
 have:=(sort_perm (lt:=lt) n).toList
 simpa using this
end
mutual
theorem RdV.keep {h h':Heap} (k:∀ b o,h.get? b = some o→h'.get? b = some o):∀ (d:D) (u:Value),RdV h d u→RdV h' d u
 | .non,u,r=>by unfold RdV at r ⊢;exact r
 | .bl _,u,r=>by unfold RdV at r ⊢;exact r
 | .int _,u,r=>by unfold RdV at r ⊢;exact r
 | .str _,u,r=>by unfold RdV at r ⊢;exact r
 | .lst ds,u,r=>by
   unfold RdV at r ⊢
   obtain ⟨a,its,e,⟨o,h1,h2⟩,h3⟩:=r
   exact ⟨a,its,e,⟨o,k _ _ h1,h2⟩,RdL.keep k ds _ h3⟩
 | .tup ds,u,r=>by
   unfold RdV at r ⊢
   obtain ⟨a,its,e,⟨o,h1,h2⟩,h3⟩:=r
   exact ⟨a,its,e,⟨o,k _ _ h1,h2⟩,RdL.keep k ds _ h3⟩
 | .fn _ _,u,r=>by unfold RdV at r;exact r.elim
theorem RdL.keep {h h':Heap} (k:∀ b o,h.get? b = some o→h'.get? b = some o):∀ (ds:List D) (us:List Value),RdL h ds us→RdL h' ds us
 | [],us,r=>by unfold RdL at r ⊢;exact r
 | d::ds,us,r=>by
   unfold RdL at r ⊢
   obtain ⟨w,ws,e,r1,r2⟩:=r
   exact ⟨w,ws,e,RdV.keep k d w r1,RdL.keep k ds ws r2⟩
end
theorem RdL.nth {h:Heap}:∀ {ds:List D} {us:List Value} (i:Nat),RdL h ds us→i < ds.length→RdV h (ds.getD i .non) (us.getD i Value.none)
 | [],us,i,r,hi=>by simp at hi
 | d::ds,us,i,r,hi=>by
   unfold RdL at r
   obtain ⟨w,ws,rfl,r1,r2⟩:=r
   cases i with
   | zero=>exact r1
   | succ i=>exact RdL.nth i r2 (by simpa using hi)
section
variable {prog:Program} {w:World} {s:Shared}
theorem one_D {A:Around} {E:Value→Shared→Prop} {a b:D} {u v:Value} {k:Bool} {Q:Bool→Shared→Prop} (ra:RdV s.heap a u) (rb:RdV s.heap b v) (hk:(headK a = 1∧headK b = 1)∨(headK a = 2∧headK b = 2)) (h:ltD a b = some k) (q:Q k s):wpAny (model prog w) A (oneLt' true u v) Q E s:=by
 rcases hk with ⟨h1,h2⟩ | ⟨h1,h2⟩
 · cases a<;>first | (simp [headK] at h1;done) | skip
   · cases b<;>first | (simp [headK] at h2;done) | skip
     · unfold RdV at ra rb
       obtain ⟨t,rfl⟩:=ra
       obtain ⟨t',rfl⟩:=rb
       unfold ltD at h
       cases h
       exact oneLt_str q
     · rename_i l;cases l with
       | nil=>simp [headK] at h2
       | cons x r=>cases x<;>simp [headK] at h2
   · rename_i l;cases l with
     | nil=>simp [headK] at h1
     | cons x r=>cases x<;>simp [headK] at h1
 · cases a<;>first | (simp [headK] at h1;done) | skip
   · cases b<;>first | (simp [headK] at h2;done) | skip
     · unfold RdV at ra rb
       obtain ⟨t,rfl⟩:=ra
       obtain ⟨t',rfl⟩:=rb
       unfold ltD at h
       cases h
       exact oneLt_int q
     · rename_i l;cases l with
       | nil=>simp [headK] at h2
       | cons x r=>cases x<;>simp [headK] at h2
   · rename_i l;cases l with
     | nil=>simp [headK] at h1
     | cons x r=>cases x<;>simp [headK] at h1
theorem katLex_D {A:Around} {fin:Bool} {Q:Bool→Shared→Prop} {k:Bool}:∀ (as bs:List D) (us vs:List Value) (i:Nat),RdL s.heap as us→RdL s.heap bs vs→A.units+min (depL as) (depL bs)+1 < cLine→ltDs as bs = some k→fin = decide (as.length < bs.length) →
 (i = 0→∀ x y,as.head? = some x→bs.head? = some y→(headK x = 1∧headK y = 1)∨(headK x = 2∧headK y = 2))→Q k s→KatLex prog w A true fin Q (us.zip vs) i s
 | [],[],us,vs,i,ra,rb,hu,h,hf,hh,q=>by
   unfold RdL at ra rb
   subst ra;subst rb
   unfold ltDs at h
   cases h
   subst hf
   exact kat_nil q
 | [],y::ys,us,vs,i,ra,rb,hu,h,hf,hh,q=>by
   unfold RdL at ra
   subst ra
   unfold ltDs at h
   cases h
   have:fin = true:=by rw [hf];simp
   subst this
   exact kat_nil q
 | x::xs,[],us,vs,i,ra,rb,hu,h,hf,hh,q=>by
   unfold RdL at rb
   subst rb
   unfold ltDs at h
   cases h
   have:fin = false:=by rw [hf];simp
   subst this
   rw [List.zip_nil_right]
   exact kat_nil q
 | x::xs,y::ys,us,vs,i,ra,rb,hu,h,hf,hh,q=>by
   unfold RdL at ra rb
   obtain ⟨u,us',rfl,ra1,ra2⟩:=ra
   obtain ⟨v,vs',rfl,rb1,rb2⟩:=rb
   unfold ltDs at h
   unfold depL at hu
   rw [List.zip_cons_cons]
   refine kat_cons (eqAt_D x y A s u v ra1 rb1 (by omega) prog w _ _ ?_)
   cases e:eqD x y with
   | true =>
     rw [e,if_pos rfl] at h
     exact kat_yes (katLex_D xs ys us' vs' (i+1) ra2 rb2 (by omega) h (by rw [hf];simp) (fun z=>by omega) q)
   | false =>
     rw [e,if_neg Bool.false_ne_true] at h
     refine kat_no ?_
     by_cases hi:i = 0
     · subst hi
       exact one_D ra1 rb1 (hh rfl x y rfl rfl) h q
     · have e0:(true && i == 0) = false:=by simp [hi]
       rw [e0]
       exact kat_one u v (ltAt_D x y A s u v k ra1 rb1 (by omega) h prog w _ _ q)
end
end PP
end
section
namespace PP
open PySem
structure Ck where
 N:List Str
 sc:Scope
 fns:List (Str × List Str)
 gn:List Str
def visB (sc:Scope) (x:Str):Bool:=match sc.names.lookup x with
 | some .local=>true | some .cell=>true | some .free=>true | _=>false
def locB (sc:Scope) (x:Str):Bool:=match sc.names.lookup x with
 | some .local=>true | some .cell=>true | _=>false
def glB (sc:Scope) (x:Str):Bool:=match sc.names.lookup x with
 | some .globalImplicit=>true | _=>false
def nmOk (x:Str):Bool:=!(x == ("__debug__":Str)) && !(x == ("__classdict__":Str)) && !(x == ("__name__":Str))
def nameIs (c:Ck) (i:Nat) (x:Str):Bool:=decide (c.N[i]? = some x) && visB c.sc x && nmOk x
def nameTo (c:Ck) (i:Nat) (x:Str):Bool:=decide (c.N[i]? = some x) && locB c.sc x && nmOk x
def globIs (c:Ck) (x:Str):Bool:=glB c.sc x && nmOk x
def opIs:Op→Operator→Bool
 | .add,.Add=>true | .sub,.Sub=>true | .mul,.Mult=>true | .mod,.Mod=>true | .fdiv,.FloorDiv=>true | .pow,.Pow=>true
 | _,_=>false
def copIs:Cop→CmpOp→Bool
 | .lt,.Lt=>true | .gt,.Gt=>true | .eq,.Eq=>true | .ne,.NotEq=>true | .isin,.In=>true | .notin,.NotIn=>true
 | _,_=>false
def bltNm:Blt→Str
 | .len=>"len" | .min=>"min" | .max=>"max" | .toInt=>"int" | .toStr=>"str" | .toTup=>"tuple" | .toLst=>"list"
 | .isInt=>"isinstance" | .isBool=>"isinstance" | .isList=>"isinstance"
def bltNames:List Str:=["len","min","max","int","str","tuple","list","sum","isinstance","bool","range","sorted","set","zip","any"]
def noPk:Es→Bool
 | .nil=>true
 | .cons e es=>!isPk e && noPk es
def okEs:Es→Bool
 | .nil=>true
 | .cons e es=>(!isPk e || npS es) && okEs es
def esLen:Es→Nat
 | .nil=>0
 | .cons _ es=>esLen es+1
def st (x:Expr):Str:=match x with
 | .Name y _=>y
 | .Attribute _ m _=>m
 | _=>""
def cst (x:Expr):Const:=match x with
 | .Constant v _ _=>v
 | _=>.none
def e1 (x:Expr):Expr:=match x with
 | .BinOp y _ _ _=>y
 | .Compare y _ _ _=>y
 | .UnaryOp _ y _=>y
 | .IfExp t _ _ _=>t
 | .Subscript y _ _=>y
 | .Call f _ _ _=>f
 | .Attribute y _ _=>y
 | .ListComp e _ _ _=>e
 | .SetComp e _ _ _=>e
 | _=>x
def bop (x:Expr):Operator:=match x with
 | .BinOp _ o _ _=>o
 | _=>.Add
def e2 (x:Expr):Expr:=match x with
 | .BinOp _ _ z _=>z
 | .IfExp _ y _ _=>y
 | .Subscript _ z _=>z
 | _=>x
def cops (x:Expr):List CmpOp:=match x with
 | .Compare _ os _ _=>os
 | _=>[]
def ls (x:Expr):List Expr:=match x with
 | .Compare _ _ zs _=>zs
 | .BoolOp _ vs _=>vs
 | .Tuple es _ _=>es
 | .List es _=>es
 | .Call _ as _ _=>as
 | _=>[]
def boop (x:Expr):PySem.BoolOp:=match x with
 | .BoolOp o _ _=>o
 | _=>.And
def po (x:Expr):Pos:=match x with
 | .Name _ p=>p
 | .BoolOp _ _ p=>p
 | .Call _ _ _ p=>p
 | .Attribute _ _ p=>p
 | .ListComp _ _ _ p=>p
 | _=>⟨0,0,0,0⟩
def uop (x:Expr):PySem.UnaryOp:=match x with
 | .UnaryOp o _ _=>o
 | _=>.Not
def e3 (x:Expr):Expr:=match x with
 | .IfExp _ _ z _=>z
 | _=>x
def o1 (x:Expr):Option Expr:=match x with
 | .Slice l _ _ _=>l
 | _=>none
def o2 (x:Expr):Option Expr:=match x with
 | .Slice _ h _ _=>h
 | _=>none
def o3 (x:Expr):Option Expr:=match x with
 | .Slice _ _ s _=>s
 | _=>none
def kws (x:Expr):List Keyword:=match x with
 | .Call _ _ ks _=>ks
 | _=>[]
def gns (x:Expr):List Comprehension:=match x with
 | .ListComp _ gs _ _=>gs
 | .SetComp _ gs _ _=>gs
 | _=>[]
def scp (x:Expr) (d:Scope):Scope:=match x with
 | .ListComp _ _ sc _=>sc
 | .SetComp _ _ sc _=>sc
 | _=>d
def tagE:Expr→Nat
 | .Name .. => 0
 | .Constant .. => 1
 | .BinOp .. => 2
 | .Compare .. => 3
 | .BoolOp .. => 4
 | .UnaryOp .. => 5
 | .IfExp .. => 6
 | .Tuple .. => 7
 | .List .. => 8
 | .Subscript .. => 9
 | .Slice .. => 10
 | .Call .. => 11
 | .Attribute .. => 12
 | .ListComp .. => 13
 | .SetComp .. => 14
 | .JoinedStr .. => 15
 | .FormattedValue .. => 16
 | _=>99
def invE (x:Expr):Nat→Prop
 | 0=>∃ y p,x = .Name y p
 | 1=>∃ v n p,x = .Constant v n p
 | 2=>∃ y o z p,x = .BinOp y o z p
 | 3=>∃ y os zs p,x = .Compare y os zs p
 | 4=>∃ o vs p,x = .BoolOp o vs p
 | 5=>∃ o y p,x = .UnaryOp o y p
 | 6=>∃ t y z p,x = .IfExp t y z p
 | 7=>∃ es n p,x = .Tuple es n p
 | 8=>∃ es p,x = .List es p
 | 9=>∃ y z p,x = .Subscript y z p
 | 10=>∃ l u s p,x = .Slice l u s p
 | 11=>∃ f as ks p,x = .Call f as ks p
 | 12=>∃ y m p,x = .Attribute y m p
 | 13=>∃ e gs sc p,x = .ListComp e gs sc p
 | 14=>∃ e gs sc p,x = .SetComp e gs sc p
 | 15=>∃ vs p,x = .JoinedStr vs p
 | 16=>∃ y cv sp p,x = .FormattedValue y cv sp p
 | _=>True
theorem invE_all (x:Expr):invE x (tagE x):=by
 cases x<;>first | trivial | exact ⟨_,_,rfl⟩ | exact ⟨_,_,_,rfl⟩ | exact ⟨_,_,_,_,rfl⟩ | exact ⟨_,_,_,_,_,rfl⟩
theorem invE_of {x:Expr} {n:Nat} {b:Bool} (h:((tagE x == n) && b) = true):invE x n∧b = true:=by
 rw [Bool.and_eq_true] at h
 exact ⟨eq_of_beq h.1▸invE_all x,h.2⟩
@[irreducible] def onName (x:Expr) (k:Str→Bool):Bool:=(tagE x == 0) && k (st x)
theorem onName_of {x:Expr} {k:Str→Bool} (h:onName x k = true):∃ y p,x = .Name y p∧k y = true:=by
 unfold onName at h
 obtain ⟨⟨y,p,rfl⟩,h⟩:=invE_of h
 exact ⟨y,p,rfl,h⟩
@[irreducible] def onC (x:Expr) (k:Const→Bool):Bool:=(tagE x == 1) && k (cst x)
theorem onC_of {x:Expr} {k:Const→Bool} (h:onC x k = true):∃ v n p,x = .Constant v n p∧k v = true:=by
 unfold onC at h
 obtain ⟨⟨v,n,p,rfl⟩,h⟩:=invE_of h
 exact ⟨v,n,p,rfl,h⟩
@[irreducible] def onBin (x:Expr) (k:Expr→Operator→Expr→Bool):Bool:=(tagE x == 2) && k (e1 x) (bop x) (e2 x)
theorem onBin_of {x:Expr} {k:Expr→Operator→Expr→Bool} (h:onBin x k = true):∃ y o z p,x = .BinOp y o z p∧k y o z = true:=by
 unfold onBin at h
 obtain ⟨⟨y,o,z,p,rfl⟩,h⟩:=invE_of h
 exact ⟨y,o,z,p,rfl,h⟩
@[irreducible] def onCmp (x:Expr) (k:Expr→List CmpOp→List Expr→Bool):Bool:=(tagE x == 3) && k (e1 x) (cops x) (ls x)
theorem onCmp_of {x:Expr} {k:Expr→List CmpOp→List Expr→Bool} (h:onCmp x k = true):∃ y os zs p,x = .Compare y os zs p∧k y os zs = true:=by
 unfold onCmp at h
 obtain ⟨⟨y,os,zs,p,rfl⟩,h⟩:=invE_of h
 exact ⟨y,os,zs,p,rfl,h⟩
@[irreducible] def onBo (x:Expr) (k:PySem.BoolOp→List Expr→Pos→Bool):Bool:=(tagE x == 4) && k (boop x) (ls x) (po x)
theorem onBo_of {x:Expr} {k:PySem.BoolOp→List Expr→Pos→Bool} (h:onBo x k = true):∃ o vs p,x = .BoolOp o vs p∧k o vs p = true:=by
 unfold onBo at h
 obtain ⟨⟨o,vs,p,rfl⟩,h⟩:=invE_of h
 exact ⟨o,vs,p,rfl,h⟩
@[irreducible] def onUn (x:Expr) (k:PySem.UnaryOp→Expr→Bool):Bool:=(tagE x == 5) && k (uop x) (e1 x)
theorem onUn_of {x:Expr} {k:PySem.UnaryOp→Expr→Bool} (h:onUn x k = true):∃ o y p,x = .UnaryOp o y p∧k o y = true:=by
 unfold onUn at h
 obtain ⟨⟨o,y,p,rfl⟩,h⟩:=invE_of h
 exact ⟨o,y,p,rfl,h⟩
@[irreducible] def onIf (x:Expr) (k:Expr→Expr→Expr→Bool):Bool:=(tagE x == 6) && k (e1 x) (e2 x) (e3 x)
theorem onIf_of {x:Expr} {k:Expr→Expr→Expr→Bool} (h:onIf x k = true):∃ t y z p,x = .IfExp t y z p∧k t y z = true:=by
 unfold onIf at h
 obtain ⟨⟨t,y,z,p,rfl⟩,h⟩:=invE_of h
 exact ⟨t,y,z,p,rfl,h⟩
@[irreducible] def onTup (x:Expr) (k:List Expr→Bool):Bool:=(tagE x == 7) && k (ls x)
theorem onTup_of {x:Expr} {k:List Expr→Bool} (h:onTup x k = true):∃ es n p,x = .Tuple es n p∧k es = true:=by
 unfold onTup at h
 obtain ⟨⟨es,n,p,rfl⟩,h⟩:=invE_of h
 exact ⟨es,n,p,rfl,h⟩
@[irreducible] def onLst (x:Expr) (k:List Expr→Bool):Bool:=(tagE x == 8) && k (ls x)
theorem onLst_of {x:Expr} {k:List Expr→Bool} (h:onLst x k = true):∃ es p,x = .List es p∧k es = true:=by
 unfold onLst at h
 obtain ⟨⟨es,p,rfl⟩,h⟩:=invE_of h
 exact ⟨es,p,rfl,h⟩
@[irreducible] def onSub (x:Expr) (k:Expr→Expr→Bool):Bool:=(tagE x == 9) && k (e1 x) (e2 x)
theorem onSub_of {x:Expr} {k:Expr→Expr→Bool} (h:onSub x k = true):∃ y z p,x = .Subscript y z p∧k y z = true:=by
 unfold onSub at h
 obtain ⟨⟨y,z,p,rfl⟩,h⟩:=invE_of h
 exact ⟨y,z,p,rfl,h⟩
@[irreducible] def onSl (x:Expr) (k:Option Expr→Option Expr→Option Expr→Bool):Bool:=(tagE x == 10) && k (o1 x) (o2 x) (o3 x)
theorem onSl_of {x:Expr} {k:Option Expr→Option Expr→Option Expr→Bool} (h:onSl x k = true):∃ l u s p,x = .Slice l u s p∧k l u s = true:=by
 unfold onSl at h
 obtain ⟨⟨l,u,s,p,rfl⟩,h⟩:=invE_of h
 exact ⟨l,u,s,p,rfl,h⟩
@[irreducible] def onCall (x:Expr) (k:Expr→List Expr→List Keyword→Pos→Bool):Bool:=(tagE x == 11) && k (e1 x) (ls x) (kws x) (po x)
theorem onCall_of {x:Expr} {k:Expr→List Expr→List Keyword→Pos→Bool} (h:onCall x k = true):∃ f as ks p,x = .Call f as ks p∧k f as ks p = true:=by
 unfold onCall at h
 obtain ⟨⟨f,as,ks,p,rfl⟩,h⟩:=invE_of h
 exact ⟨f,as,ks,p,rfl,h⟩
@[irreducible] def onAt (x:Expr) (k:Expr→Str→Pos→Bool):Bool:=(tagE x == 12) && k (e1 x) (st x) (po x)
theorem onAt_of {x:Expr} {k:Expr→Str→Pos→Bool} (h:onAt x k = true):∃ y m p,x = .Attribute y m p∧k y m p = true:=by
 unfold onAt at h
 obtain ⟨⟨y,m,p,rfl⟩,h⟩:=invE_of h
 exact ⟨y,m,p,rfl,h⟩
@[irreducible] def onLC (x:Expr) (k:Expr→List Comprehension→Scope→Pos→Bool):Bool:=(tagE x == 13) && k (e1 x) (gns x) (scp x default) (po x)
theorem onLC_of {x:Expr} {k:Expr→List Comprehension→Scope→Pos→Bool} (h:onLC x k = true):∃ e gs sc p,x = .ListComp e gs sc p∧k e gs sc p = true:=by
 unfold onLC at h
 obtain ⟨⟨e,gs,sc,p,rfl⟩,h⟩:=invE_of h
 exact ⟨e,gs,sc,p,rfl,h⟩
def sls (x:Stmt):List Expr:=match x with
 | .Assign ts _ _=>ts
 | _=>[]
def s1 (x:Stmt):Expr:=match x with
 | .Assign _ y _=>y
 | .AugAssign t _ _ _=>t
 | .If t _ _ _=>t
 | .For t _ _ _ _=>t
 | .While t _ _ _=>t
 | .Expr y _=>y
 | _=>.Constant .none 0 ⟨0,0,0,0⟩
def sop (x:Stmt):Operator:=match x with
 | .AugAssign _ o _ _=>o
 | _=>.Add
def s2 (x:Stmt):Expr:=match x with
 | .AugAssign _ _ y _=>y
 | .For _ it _ _ _=>it
 | _=>.Constant .none 0 ⟨0,0,0,0⟩
def so (x:Stmt):Option Expr:=match x with
 | .Return y _=>y
 | _=>none
def sb (x:Stmt):List Stmt:=match x with
 | .If _ y _ _=>y
 | .For _ _ y _ _=>y
 | .While _ y _ _=>y
 | _=>[]
def sc2 (x:Stmt):List Stmt:=match x with
 | .If _ _ z _=>z
 | .For _ _ _ z _=>z
 | .While _ _ z _=>z
 | _=>[]
def tagS:Stmt→Nat
 | .Assign .. => 0
 | .AugAssign .. => 1
 | .Return .. => 2
 | .If .. => 3
 | .For .. => 4
 | .While .. => 5
 | .Expr .. => 6
 | _=>99
def invS (x:Stmt):Nat→Prop
 | 0=>∃ ts y p,x = .Assign ts y p
 | 1=>∃ t o y p,x = .AugAssign t o y p
 | 2=>∃ y p,x = .Return y p
 | 3=>∃ t y z p,x = .If t y z p
 | 4=>∃ t it y z p,x = .For t it y z p
 | 5=>∃ t y z p,x = .While t y z p
 | 6=>∃ y p,x = .Expr y p
 | _=>True
theorem invS_all (x:Stmt):invS x (tagS x):=by
 cases x<;>first | trivial | exact ⟨_,_,rfl⟩ | exact ⟨_,_,_,rfl⟩ | exact ⟨_,_,_,_,rfl⟩ | exact ⟨_,_,_,_,_,rfl⟩
theorem invS_of {x:Stmt} {n:Nat} {b:Bool} (h:((tagS x == n) && b) = true):invS x n∧b = true:=by
 rw [Bool.and_eq_true] at h
 exact ⟨eq_of_beq h.1▸invS_all x,h.2⟩
@[irreducible] def onAsg (x:Stmt) (k:List Expr→Expr→Bool):Bool:=(tagS x == 0) && k (sls x) (s1 x)
theorem onAsg_of {x:Stmt} {k:List Expr→Expr→Bool} (h:onAsg x k = true):∃ ts y p,x = .Assign ts y p∧k ts y = true:=by
 unfold onAsg at h
 obtain ⟨⟨ts,y,p,rfl⟩,h⟩:=invS_of h
 exact ⟨ts,y,p,rfl,h⟩
@[irreducible] def onAug (x:Stmt) (k:Expr→Operator→Expr→Bool):Bool:=(tagS x == 1) && k (s1 x) (sop x) (s2 x)
theorem onAug_of {x:Stmt} {k:Expr→Operator→Expr→Bool} (h:onAug x k = true):∃ t o y p,x = .AugAssign t o y p∧k t o y = true:=by
 unfold onAug at h
 obtain ⟨⟨t,o,y,p,rfl⟩,h⟩:=invS_of h
 exact ⟨t,o,y,p,rfl,h⟩
@[irreducible] def onRet (x:Stmt) (k:Option Expr→Bool):Bool:=(tagS x == 2) && k (so x)
theorem onRet_of {x:Stmt} {k:Option Expr→Bool} (h:onRet x k = true):∃ y p,x = .Return y p∧k y = true:=by
 unfold onRet at h
 obtain ⟨⟨y,p,rfl⟩,h⟩:=invS_of h
 exact ⟨y,p,rfl,h⟩
@[irreducible] def onIfS (x:Stmt) (k:Expr→List Stmt→List Stmt→Bool):Bool:=(tagS x == 3) && k (s1 x) (sb x) (sc2 x)
theorem onIfS_of {x:Stmt} {k:Expr→List Stmt→List Stmt→Bool} (h:onIfS x k = true):∃ t y z p,x = .If t y z p∧k t y z = true:=by
 unfold onIfS at h
 obtain ⟨⟨t,y,z,p,rfl⟩,h⟩:=invS_of h
 exact ⟨t,y,z,p,rfl,h⟩
@[irreducible] def onFor (x:Stmt) (k:Expr→Expr→List Stmt→List Stmt→Bool):Bool:=(tagS x == 4) && k (s1 x) (s2 x) (sb x) (sc2 x)
theorem onFor_of {x:Stmt} {k:Expr→Expr→List Stmt→List Stmt→Bool} (h:onFor x k = true):∃ t it y z p,x = .For t it y z p∧k t it y z = true:=by
 unfold onFor at h
 obtain ⟨⟨t,it,y,z,p,rfl⟩,h⟩:=invS_of h
 exact ⟨t,it,y,z,p,rfl,h⟩
@[irreducible] def onWh (x:Stmt) (k:Expr→List Stmt→List Stmt→Bool):Bool:=(tagS x == 5) && k (s1 x) (sb x) (sc2 x)
theorem onWh_of {x:Stmt} {k:Expr→List Stmt→List Stmt→Bool} (h:onWh x k = true):∃ t y z p,x = .While t y z p∧k t y z = true:=by
 unfold onWh at h
 obtain ⟨⟨t,y,z,p,rfl⟩,h⟩:=invS_of h
 exact ⟨t,y,z,p,rfl,h⟩
@[irreducible] def onEx (x:Stmt) (k:Expr→Bool):Bool:=(tagS x == 6) && k (s1 x)
theorem onEx_of {x:Stmt} {k:Expr→Bool} (h:onEx x k = true):∃ y p,x = .Expr y p∧k y = true:=by
 unfold onEx at h
 obtain ⟨⟨y,p,rfl⟩,h⟩:=invS_of h
 exact ⟨y,p,rfl,h⟩
section
variable {α:Type} {xs:List α}
@[irreducible] def on0 (xs:List α) (k:Bool):Bool:=match xs with
 | []=>k
 | _=>false
theorem on0_of {k:Bool} (h:on0 xs k = true):xs = []∧k = true:=by
 unfold on0 at h
 cases xs<;>first | exact ⟨rfl,h⟩ | cases h
@[irreducible] def onS (xs:List α) (k:α→List α→Bool):Bool:=match xs with
 | y::ys=>k y ys
 | _=>false
theorem onS_of {k:α→List α→Bool} (h:onS xs k = true):∃ y ys,xs = y::ys∧k y ys = true:=by
 unfold onS at h
 cases xs<;>first | exact ⟨_,_,rfl,h⟩ | cases h
@[irreducible] def on1 (xs:List α) (k:α→Bool):Bool:=onS xs fun y ys=>on0 ys (k y)
theorem on1_of {k:α→Bool} (h:on1 xs k = true):∃ y,xs = [y]∧k y = true:=by
 unfold on1 at h
 obtain ⟨y,ys,rfl,h1⟩:=onS_of h
 obtain ⟨rfl,h2⟩:=on0_of h1
 exact ⟨y,rfl,h2⟩
@[irreducible] def on2 (xs:List α) (k:α→α→Bool):Bool:=onS xs fun y ys=>on1 ys (k y)
theorem on2_of {k:α→α→Bool} (h:on2 xs k = true):∃ y z,xs = [y,z]∧k y z = true:=by
 unfold on2 at h
 obtain ⟨y,ys,rfl,h1⟩:=onS_of h
 obtain ⟨z,rfl,h2⟩:=on1_of h1
 exact ⟨y,z,rfl,h2⟩
end
@[irreducible] def onI (v:Const) (k:Int→Bool):Bool:=match v with
 | .int i=>k i
 | _=>false
theorem onI_of {v:Const} {k:Int→Bool} (h:onI v k = true):∃ i,v = .int i∧k i = true:=by
 unfold onI at h
 cases v<;>first | exact ⟨_,rfl,h⟩ | cases h
@[irreducible] def onB (v:Const) (k:Bool→Bool):Bool:=match v with
 | .bool i=>k i
 | _=>false
theorem onB_of {v:Const} {k:Bool→Bool} (h:onB v k = true):∃ i,v = .bool i∧k i = true:=by
 unfold onB at h
 cases v<;>first | exact ⟨_,rfl,h⟩ | cases h
@[irreducible] def onT (v:Const) (k:Str→Bool):Bool:=match v with
 | .str i=>k i
 | _=>false
theorem onT_of {v:Const} {k:Str→Bool} (h:onT v k = true):∃ i,v = .str i∧k i = true:=by
 unfold onT at h
 cases v<;>first | exact ⟨_,rfl,h⟩ | cases h
def isNon:Const→Bool
 | .none=>true
 | _=>false
theorem isNon_of {v:Const} (h:isNon v = true):v = .none:=by
 cases v<;>first | rfl | cases h
@[irreducible] def onCN (x:Expr) (k:Str→List Expr→Bool):Bool:=onCall x fun f as ks _=>onName f fun n=>on0 ks (k n as)
theorem onCN_of {x:Expr} {k:Str→List Expr→Bool} (h:onCN x k = true):∃ n np as p,x = .Call (.Name n np) as [] p∧k n as = true:=by
 unfold onCN at h
 obtain ⟨f,as,ks,p,rfl,h1⟩:=onCall_of h
 obtain ⟨n,np,rfl,h2⟩:=onName_of h1
 obtain ⟨rfl,h3⟩:=on0_of h2
 exact ⟨n,np,as,p,rfl,h3⟩
@[irreducible] def onM (x:Expr) (k:Expr→Str→List Expr→Bool):Bool:=onCall x fun f as ks cp=>onAt f fun y m ap=>on0 ks (decide (ap.endLine = cp.line) && k y m as)
theorem onM_of {x:Expr} {k:Expr→Str→List Expr→Bool} (h:onM x k = true):∃ y m ap as cp,x = .Call (.Attribute y m ap) as [] cp∧ap.endLine = cp.line∧k y m as = true:=by
 unfold onM at h
 obtain ⟨f,as,ks,cp,rfl,h1⟩:=onCall_of h
 obtain ⟨y,m,ap,rfl,h2⟩:=onAt_of h1
 obtain ⟨rfl,h3⟩:=on0_of h2
 rw [Bool.and_eq_true] at h3
 exact ⟨y,m,ap,as,cp,rfl,of_decide_eq_true h3.1,h3.2⟩
@[irreducible] def onG (g:Comprehension) (k:Expr→Expr→List Expr→Bool):Bool:=decide (g.is_async = 0) && k g.target g.iter g.ifs
theorem onG_of {g:Comprehension} {k:Expr→Expr→List Expr→Bool} (h:onG g k = true):∃ t it il,g = ⟨t,it,il,0⟩∧k t it il = true:=by
 obtain ⟨t,it,il,a⟩:=g
 unfold onG at h
 rw [Bool.and_eq_true] at h
 have e:a = 0:=of_decide_eq_true h.1
 subst e
 exact ⟨t,it,il,rfl,h.2⟩
def tgNames:Expr→Option (List Str)
 | .Name x _=>some [x]
 | .Tuple es _ _=>es.mapM fun | .Name x _=>some x | _=>none
 | _=>none
def ckNs (c:Ck):List Nat→List Expr→Bool
 | [],es=>on0 es true
 | i::is,es=>onS es fun e r=>onName e (fun x=>nameTo c i x) && ckNs c is r
def ckTg (c:Ck):Tg→Expr→Bool
 | .nm i,x=>onName x fun y=>nameTo c i y
 | .tp is,x=>onTup x fun es=>ckNs c is es
 | .pr i is,x=>onTup x fun es=>on2 es fun a b=>onName a (fun y=>nameTo c i y) && onTup b fun es=>ckNs c is es
def tgGe (n:Nat):Tg→Bool
 | .nm i=>decide (n≤i)
 | .tp is=>is.all fun i=>decide (n≤i)
 | .pr i is=>decide (n≤i) && is.all fun i=>decide (n≤i)
def maskN (ts:List Str) (N:List Str):List Str:=N.map fun y=>if ts.contains y then y++(" ":Str) else y
def scopeOk (c:Ck) (sc:Scope):Bool :=
 decide (sc.kind = .function) && sc.names.all fun p=>decide (p.2≠.cell) && (!decide (p.2 = .local) || decide (sc.names.lookup p.1 = some .local)) &&
  (!decide (p.2 = .free) || (match c.sc.names.lookup p.1 with | some .cell=>true | some .free=>true | _=>false))
def namesOk (c:Ck) (sc:Scope) (Nc:List Str):Bool :=
 decide Nc.Nodup && (List.range c.N.length).all fun i=>match Nc[i]? with
  | some x=>!visB sc x || (decide (c.N[i]? = some x) && decide (sc.names.lookup x = some .free))
  | none=>false
def isNot:PySem.UnaryOp→Bool
 | .Not=>true
 | _=>false
theorem isNot_of {o:PySem.UnaryOp} (h:isNot o = true):o = .Not:=by cases o<;>first | rfl | cases h
@[irreducible] def onO (x:Option Expr) (k:Expr→Bool):Bool:=match x with
 | some y=>k y
 | none=>false
theorem onO_of {x:Option Expr} {k:Expr→Bool} (h:onO x k = true):∃ y,x = some y∧k y = true:=by
 unfold onO at h
 cases x with
 | none=>cases h
 | some y=>exact ⟨y,rfl,h⟩
mutual
def ckE (c:Ck):E→Expr→Bool
 | .var i,x=>onName x fun y=>nameIs c i y
 | .pk i,x=>onName x fun y=>nameIs c i y
 | .glob g,x=>onName x fun y=>decide (c.gn[g]? = some y) && globIs c y
 | .int i,x=>onC x fun v=>onI v fun j=>decide (i = j)
 | .bl b,x=>onC x fun v=>onB v fun j=>decide (b = j)
 | .non,x=>onC x isNon
 | .str t,x=>onC x fun v=>onT v fun u=>decide (t = u)
 | .bin op a b,x=>onBin x fun y o z=>opIs op o && ckE c a y && ckE c b z && (!isPk a || np b)
 | .cmp op a b,x=>onCmp x fun y os zs=>on1 os fun o=>on1 zs fun z=>copIs op o && ckE c a y && ckE c b z && (!isPk a || np b)
 | .and a b,x=>onBo x fun o vs p=>onS vs fun y r=>onS r fun z r2=>(match o with
   | .And=>true
   | .Or=>false) && ckE c a y && ckE c b (match r2 with
   | []=>z
   | _::_=>.BoolOp .And (z::r2) p) && !isPk a && !isPk b
 | .or a b,x=>onBo x fun o vs p=>onS vs fun y r=>onS r fun z r2=>(match o with
   | .And=>false
   | .Or=>true) && ckE c a y && ckE c b (match r2 with
   | []=>z
   | _::_=>.BoolOp .Or (z::r2) p) && !isPk a && !isPk b
 | .not a,x=>onUn x fun o y=>isNot o && ckE c a y && !isPk a
 | .ssd a,x=>onCN x fun f as=>on1 as fun w=>onCN w fun g as=>on1 as fun y=>decide (f = ("sorted":Str)) && decide (g = ("set":Str)) && globIs c f && globIs c g && ckE c a y && !isPk a
 | .ite k a b,x=>onIf x fun t y z=>ckE c k t && ckE c a y && ckE c b z && !isPk a && !isPk b
 | .tup es,x=>onTup x fun xs=>ckEs c es xs && noPk es
 | .lst es,x=>onLst x fun xs=>ckEs c es xs && noPk es
 | .ix a b,x=>onSub x fun y z=>ckE c a y && ckE c b z && (!isPk a || np b) && !isPk b
 | .sl a lo hi,x=>onSub x fun y z=>onSl z fun l h s=>s.isNone && (ckE c a y && ckO c lo l && ckO c hi h && (!isPk a || (npO lo && npO hi)))
 | .call f es,x=>onCN x fun n xs=>(match c.fns[f]? with
    | some (m,ps)=>decide (m = n) && globIs c n && decide (ps.length = esLen es) && ckEs c es xs && noPk es && !xs.isEmpty
    | none=>false)
 | .blt f es,x=>onCN x fun n xs=>decide (bltNm f = n) && globIs c n && (match tyName f with
    | some T=>on2 xs fun y w=>onName w fun t=>decide (t = (T:Str)) && globIs c t && ckEs c es [y] && okEs es
    | none=>!xs.isEmpty && ckEs c es xs && okEs es)
 | .callv i es,x=>onCN x fun n xs=>nameIs c i n && ckEs c es xs && noPk es && !xs.isEmpty
 | .callF f es i,x=>onCN x fun n xs=>(match c.fns[f]?,xs.getLast? with
    | some (m,ps),some y=>onName y fun y=>decide (m = n) && globIs c n && decide (ps.length = esLen es+1) && ckEs c es xs.dropLast && noPk es && nameIs c i y && !xs.dropLast.isEmpty
    | _,_=>false)
 | .pop i,x=>onM x fun y m as=>onName y fun y=>on0 as (decide (m = ("pop":Str)) && nameIs c i y)
 | .isdig i,x=>onM x fun y m as=>onName y fun y=>on0 as (decide (m = ("isdigit":Str)) && nameIs c i y)
 | .comp k tg src ifs elt,x=>onLC x fun ex gs sc _=>on1 gs fun g=>onG g fun t it il=>(match tgNames t with
    | some ts=>decide (ts.length = k) && tgGe c.N.length tg && scopeOk c sc && namesOk c sc (maskN ts c.N++ts) && ckTg ⟨maskN ts c.N++ts,sc,c.fns,c.gn⟩ tg t && ckI c src it &&
       ckG ⟨maskN ts c.N++ts,sc,c.fns,c.gn⟩ ifs il && ckE ⟨maskN ts c.N++ts,sc,c.fns,c.gn⟩ elt ex && !isPk elt
    | none=>false)
def ckEs (c:Ck):Es→List Expr→Bool
 | .nil,xs=>on0 xs true
 | .cons e es,xs=>onS xs fun y ys=>ckE c e y && ckEs c es ys
def ckO (c:Ck):Eo→Option Expr→Bool
 | .no,x=>x.isNone
 | .yes e,x=>onO x fun y=>ckE c e y && !isPk e
def ckG (c:Ck):Eo→List Expr→Bool
 | .no,x=>on0 x true
 | .yes e,x=>on1 x fun y=>ckE c e y
def ckI (c:Ck):It→Expr→Bool
 | .rng e,x=>onCN x fun n xs=>on1 xs fun y=>decide (n = ("range":Str)) && globIs c n && ckE c e y && !isPk e
 | .sq e,x=>ckE c e x && !isPk e
end
theorem ckEs_cons {c:Ck} {es:Es} {y:Expr} {ys:List Expr} (h:ckEs c es (y::ys) = true):∃ e es',es = .cons e es'∧ckE c e y = true∧ckEs c es' ys = true:=by
 cases es with
 | nil=>cases (on0_of h).1
 | cons e es =>
   obtain ⟨_,_,q,h'⟩:=onS_of h
   cases q
   rw [Bool.and_eq_true] at h'
   exact ⟨e,es,rfl,h'⟩
theorem tg_shape {c:Ck} {tg:Tg} {t:Expr} (h:ckTg c tg t = true):(∃ x p,t = .Name x p)∨∃ es n p,t = .Tuple es n p:=by
 cases tg with
 | nm i=>obtain ⟨x,p,rfl,_⟩:=onName_of h;exact .inl ⟨x,p,rfl⟩
 | tp is=>obtain ⟨es,n,p,rfl,_⟩:=onTup_of h;exact .inr ⟨es,n,p,rfl⟩
 | pr i is=>obtain ⟨es,n,p,rfl,_⟩:=onTup_of h;exact .inr ⟨es,n,p,rfl⟩
def headOk:Expr→Bool
 | .Name .. | .Constant .. | .BinOp .. | .Compare .. | .BoolOp .. | .UnaryOp .. | .IfExp .. | .Tuple .. | .List .. | .Subscript .. | .Call .. | .ListComp .. => true
 | .JoinedStr .. => true
 | _=>false
theorem hdN {x:Expr} {k:Str→Bool} (h:onName x k = true):headOk x = true:=by obtain ⟨_,_,rfl,_⟩:=onName_of h;rfl
theorem hdC {x:Expr} {k:Const→Bool} (h:onC x k = true):headOk x = true:=by obtain ⟨_,_,_,rfl,_⟩:=onC_of h;rfl
theorem hdF {x:Expr} {k:Str→List Expr→Bool} (h:onCN x k = true):headOk x = true:=by obtain ⟨_,_,_,_,rfl,_⟩:=onCN_of h;rfl
theorem hdM {x:Expr} {k:Expr→Str→List Expr→Bool} (h:onM x k = true):headOk x = true:=by obtain ⟨_,_,_,_,_,rfl,_⟩:=onM_of h;rfl
theorem hdB {x:Expr} {k:PySem.BoolOp→List Expr→Pos→Bool} (h:onBo x k = true):headOk x = true:=by obtain ⟨_,_,_,rfl,_⟩:=onBo_of h;rfl
theorem hdU {x:Expr} {k:PySem.UnaryOp→Expr→Bool} (h:onUn x k = true):headOk x = true:=by obtain ⟨_,_,_,rfl,_⟩:=onUn_of h;rfl
theorem hdS {x:Expr} {k:Expr→Expr→Bool} (h:onSub x k = true):headOk x = true:=by obtain ⟨_,_,_,rfl,_⟩:=onSub_of h;rfl
theorem ck_head {c:Ck} {e:E} {x:Expr} (h:ckE c e x = true):headOk x = true:=by
 cases e with
 | var i=>exact hdN h
 | pk i=>exact hdN h
 | glob g=>exact hdN h
 | int i=>exact hdC h
 | bl b=>exact hdC h
 | non=>exact hdC h
 | str t=>exact hdC h
 | bin op a b=>obtain ⟨_,_,_,_,rfl,_⟩:=onBin_of h;rfl
 | cmp op a b=>obtain ⟨_,_,_,_,rfl,_⟩:=onCmp_of h;rfl
 | and a b=>exact hdB h
 | or a b=>exact hdB h
 | not a=>exact hdU h
 | ssd a=>exact hdF h
 | ite k a b=>obtain ⟨_,_,_,_,rfl,_⟩:=onIf_of h;rfl
 | tup es=>obtain ⟨_,_,_,rfl,_⟩:=onTup_of h;rfl
 | lst es=>obtain ⟨_,_,rfl,_⟩:=onLst_of h;rfl
 | ix a b=>exact hdS h
 | sl a lo hi=>exact hdS h
 | call f es=>exact hdF h
 | blt f es=>exact hdF h
 | callv i es=>exact hdF h
 | callF f es i=>exact hdF h
 | pop i=>exact hdM h
 | isdig i=>exact hdM h
 | comp k tg src ifs elt=>obtain ⟨_,_,_,_,rfl,_⟩:=onLC_of h;rfl
theorem head_star {x:Expr} (h:headOk x = true) (xs:List Expr) (env:Env):starEach (x::xs) env = (false,eval x env)::starEach xs env:=by
 cases x<;>first | rfl | (exact absurd h Bool.false_ne_true)
theorem head_set {x:Expr} (h:headOk x = true) (env:Env) (v:Value):foldedSetIterable x env v = pure v:=by
 cases x<;>first | rfl | (exact absurd h Bool.false_ne_true)
theorem head_mark {x:Expr} (h:headOk x = true) (op:CmpOp):behindInMarks op x = false:=by
 cases x<;>first | rfl | (exact absurd h Bool.false_ne_true)
theorem head_ix {x:Expr} (h:headOk x = true):L2.PlainIx x:=by
 intro o i
 cases x<;>first | rfl | (exact absurd h Bool.false_ne_true)
def isComp:Expr→Bool
 | .ListComp .. => true
 | _=>false
theorem head_swaps {x:Expr} (h:headOk x = true) (hc:isComp x = false) (t:Option Expr) (n:Nat) (env:Env):swapsWith x t n env = pure false:=by
 cases x<;>first | rfl | (exact absurd h Bool.false_ne_true) | (exact absurd hc.symm Bool.false_ne_true)
def isCmpE:E→Bool
 | .comp .. => true
 | _=>false
@[irreducible] def onNP (x:Expr) (k:Str→Pos→Bool):Bool:=(tagE x == 0) && k (st x) (po x)
theorem onNP_of {x:Expr} {k:Str→Pos→Bool} (h:onNP x k = true):∃ y p,x = .Name y p∧k y p = true:=by
 unfold onNP at h
 obtain ⟨⟨y,p,rfl⟩,h⟩:=invE_of h
 exact ⟨y,p,rfl,h⟩
def isPB (x:Stmt) (n:Nat):Bool:=match x with
 | .Pass _=>n == 0
 | .Break _=>n == 1
 | .Continue _=>n == 2
 | _=>false
theorem isPB_of {x:Stmt} {n:Nat} (h:isPB x n = true):∃ p,(n = 0∧x = .Pass p)∨(n = 1∧x = .Break p)∨(n = 2∧x = .Continue p):=by
 cases x<;>first | (cases h;done) | skip
 · exact ⟨_,.inl ⟨eq_of_beq h,rfl⟩⟩
 · exact ⟨_,.inr (.inl ⟨eq_of_beq h,rfl⟩)⟩
 · exact ⟨_,.inr (.inr ⟨eq_of_beq h,rfl⟩)⟩
def newOk:E→Bool
 | .lst _=>true
 | .blt .toLst _=>true
 | .sl _ _ _=>true
 | _=>false
def isNm (x:Expr):Bool:=tagE x == 0
def isTp (x:Expr):Bool:=tagE x == 7
mutual
def ckS (c:Ck):S→Stmt→Bool
 | .asg tg e,x=>onAsg x fun ts y=>on1 ts fun t=>ckTg c tg t && ckE c e y && !isPk e && !isComp y && (isNm t || !isTp y)
 | .new i e,x=>onAsg x fun ts y=>on1 ts fun t=>onName t fun t=>nameTo c i t && ckE c e y && !isComp y && newOk e
 | .cmp _ i e,x=>isCmpE e && onAsg x fun ts y=>on1 ts fun t=>onNP t fun t tp=>onLC y fun ex gs sc p=>nameTo c i t && ckE c e (.ListComp ex gs sc p) && decide (c.sc.names.lookup t = some .local) && decide (tp.line = p.line) && !(sc.names.any fun (n,k)=>n == t && (k == .local || k == .cell))
 | .aug i op e,x=>onAug x fun t o y=>onName t fun t=>nameTo c i t && opIs op o && ckE c e y && !isPk e
 | .ret e,x=>onRet x fun y=>onO y fun y=>ckE c e y && !isPk e
 | .retL _ _ _ _,_=>false
 | .retN,x=>onRet x fun y=>y.isNone
 | .ifs k a b,x=>onIfS x fun t y z=>ckE c k t && ckSs c a y && ckSs c b z
 | .for_ tg src body,x=>onFor x fun t it y z=>on0 z (ckTg c tg t && ckI c src it && ckSs c body y)
 | .while_ k body,x=>onWh x fun t y z=>on0 z (ckE c k t && ckSs c body y)
 | .append i e,x=>onEx x fun w=>onM w fun y m as=>onName y fun y=>on1 as fun z=>decide (m = ("append":Str)) && nameIs c i y && ckE c e z && !isPk e
 | .extend i e,x=>onEx x fun w=>onM w fun y m as=>onName y fun y=>on1 as fun z=>decide (m = ("extend":Str)) && nameIs c i y && ckE c e z && !isPk e
 | .setix i j e,x=>onAsg x fun ts y=>on1 ts fun t=>onSub t fun w z=>onName w fun t=>nameIs c i t && ckE c e y && !isPk e && !isComp y && ckE c j z && !isPk j
 | .pass,x=>isPB x 0
 | .brk,x=>isPB x 1
 | .cont,x=>isPB x 2
def ckSs (c:Ck):Ss→List Stmt→Bool
 | .nil,xs=>on0 xs true
 | .cons s ss,xs=>onS xs fun y ys=>ckS c s y && ckSs c ss ys
end
end PP
end
section
namespace PP
open PySem L2 PyProof.Rows
variable [Tbs]
def PostE (K:PySem.W.Frag) (G:Gh) (F:Addr→Prop) (σ:L2.St) (H:Hp) (m nP:Bool) (d:D) (δ':Loc) (Q:VK):Prop :=
 ∀ v H' F',Step G F H F' H'→(nP = true→Sim H H')→Ok K G F' σ H' δ'→RelM m K H' F' d v→Q v H'
def tE (K:PySem.W.Frag) (cx:Cl) (e:E):TE:=fun σ H Q=>∃ G F δ d δ',Ok K G F σ H δ∧evE cx e δ = some (d,δ')∧PostE K G F σ H (isPk e) (np e) d δ' Q
def tT (K:PySem.W.Frag) (cx:Cl) (e:E):TT:=fun σ H Q=>∃ G F δ b δ',Ok K G F σ H δ∧evT cx e δ = some (b,δ') ∧
 ∀ H' F',Step G F H F' H'→(np e = true→Sim H H')→Ok K G F' σ H' δ'→Q b H'
def RelML (K:PySem.W.Frag) (H:Hp) (F:Addr→Prop):Es→List D→List V→Prop
 | .nil,ds,vs=>ds = []∧vs = []
 | .cons e es,ds,vs=>∃ d ds' v vs',ds = d::ds'∧vs = v::vs'∧RelM (isPk e) K H F d v∧RelML K H F es ds' vs'
def tEs (K:PySem.W.Frag) (cx:Cl) (es:Es):TA:=fun σ H Q=>∃ G F δ ds δ',Ok K G F σ H δ∧evEs cx es δ = some (ds,δ') ∧
 ∀ vs H' F',Step G F H F' H'→(npS es = true→Sim H H')→Ok K G F' σ H' δ'→RelML K H' F' es ds vs→Q vs H'
def tO (K:PySem.W.Frag) (cx:Cl) (o:Eo):TO:=fun σ H Q=>∃ G F δ d δ',Ok K G F σ H δ∧evO cx o δ = some (d,δ') ∧
 ∀ H' F',Step G F H F' H'→(npO o = true→Sim H H')→Ok K G F' σ H' δ'→Q d H'
def tG (K:PySem.W.Frag) (cx:Cl) (o:Eo):TT:=fun σ H Q=>∃ G F δ b δ',Ok K G F σ H δ∧evG cx o δ = some (b,δ') ∧
 ∀ H' F',Step G F H F' H'→(npO o = true→Sim H H')→Ok K G F' σ H' δ'→Q b H'
def Wk (K:PySem.W.Frag) (G:Gh) (F:Addr→Prop) (H:Hp) (J:L2.It) (ds:List D):Prop:=∀ F2 H2,Step G F H F2 H2→FD F2 H2→∀ i:Nat,
 (∀ d,ds[i]? = some d→J.go i H2∧∀ x H3,J.yld i H2 x H3→H3 = H2∧Rel K H2 F2 d x)∧(i = ds.length→J.stop i H2)
def tI (K:PySem.W.Frag) (cx:Cl) (t:It):TI:=fun σ H R=>∃ G F δ ds δ',Ok K G F σ H δ∧evI cx t δ = some (ds,δ') ∧
 ∀ J H' F',Step G F H F' H'→(npI t = true→Sim H H')→Ok K G F' σ H' δ'→(∀ G',Wk K G' F' H' J ds)→R J H'
section
variable {K:PySem.W.Frag} {cx:Cl} {X:Cx}
theorem PE.imp {e:Expr} {t t':TE} (h:PE X e t) (w:∀ σ H Q,t' σ H Q→t σ H Q):PE X e t':=fun pins s σ H Q I q=>h pins s σ H Q I (w σ H Q q)
theorem PT.imp {e:Expr} {t t':TT} (h:PT X e t) (w:∀ σ H Q,t' σ H Q→t σ H Q):PT X e t':=fun pins s σ H Q I q=>h pins s σ H Q I (w σ H Q q)
theorem two {a b:E} {σ:L2.St} {G:Gh} {H:Hp} {F:Addr→Prop} {δ δ1 δ2:Loc} {x y:D} (ok:Ok K G F σ H δ) (ea:evE cx a δ = some (x,δ1)) (eb:evE cx b δ1 = some (y,δ2)) (pc:(!isPk a || np b) = true) {R:V→V→Hp→Prop}
 (k:∀ v u H2 F2,Step G F H F2 H2→((np a && np b) = true→Sim H H2)→Ok K G F2 σ H2 δ2→RelM (isPk a) K H2 F2 x v→RelM (isPk b) K H2 F2 y u→R v u H2) :
 tE K cx a σ H fun v H1=>tE K cx b σ H1 fun u H2=>R v u H2:=by
 refine ⟨G,F,δ,x,δ1,ok,ea,fun v H1 F1 st1 sm1 ok1 r1=>⟨G,F1,δ1,y,δ2,ok1,eb,fun u H2 F2 st2 sm2 ok2 r2=>?_⟩⟩
 refine k v u H2 F2 (st1.trans st2) (fun z=>?_) ok2 (RelM.step ok1.fd st2 (fun z=>sm2 (by rw [z] at pc;simpa using pc)) r1) r2
 rw [Bool.and_eq_true] at z
 exact (sm1 z.1).trans (sm2 z.2)
theorem RelB.int {H:Hp} {F:Addr→Prop} {i:Int} {v:V} (h:RelB K H F (.int i) v):v = .int i:=by
 rcases h with h | ⟨_,_,_,e,_⟩
 · unfold Rel at h;exact h
 · cases e
theorem RelB.bl {H:Hp} {F:Addr→Prop} {i:Bool} {v:V} (h:RelB K H F (.bl i) v):v = .bl i:=by
 rcases h with h | ⟨_,_,_,e,_⟩
 · unfold Rel at h;exact h
 · cases e
theorem RelB.str {H:Hp} {F:Addr→Prop} {i:Str} {v:V} (h:RelB K H F (.str i) v):v = .str i:=by
 rcases h with h | ⟨_,_,_,e,_⟩
 · unfold Rel at h;exact h
 · cases e
theorem RelB.tup {H:Hp} {F:Addr→Prop} {ds:List D} {v:V} (h:RelB K H F (.tup ds) v):∃ a xs,v = .ref a∧SqT K H a xs∧RelL K H F ds xs:=by
 rcases h with h | ⟨_,_,_,e,_⟩
 · unfold Rel at h;exact h
 · cases e
theorem RelB.lst {H:Hp} {F:Addr→Prop} {ds:List D} {v:V} (h:RelB K H F (.lst ds) v):∃ a xs,v = .ref a∧LsB K H a xs∧RelL K H F ds xs:=by
 rcases h with h | ⟨a,xs,_,e,e2,h1,h2⟩
 · unfold Rel at h;obtain ⟨a,xs,e,h1,h2⟩:=h;exact ⟨a,xs,e,h1.b,h2⟩
 · cases e;exact ⟨a,xs,e2,.inl (.inl h1),h2⟩
theorem rel_int {H:Hp} {F:Addr→Prop} (i:Int):Rel K H F (.int i) (.int i):=by unfold Rel;rfl
theorem rel_bl {H:Hp} {F:Addr→Prop} (i:Bool):Rel K H F (.bl i) (.bl i):=by unfold Rel;rfl
theorem rel_str {H:Hp} {F:Addr→Prop} (i:Str):Rel K H F (.str i) (.str i):=by unfold Rel;rfl
theorem rel_non {H:Hp} {F:Addr→Prop}:Rel K H F .non .non:=by unfold Rel;rfl
theorem Ok.laid {σ:L2.St} {G:Gh} {H:Hp} {F:Addr→Prop} {δ:Loc} {p:Addr} (ok:Ok K G F σ H δ) (hp:H p = none) (o:HO):Ok K G F σ (upd H p o) δ∧Step G F H F (upd H p o)∧Sim H (upd H p o)∧¬ F p :=
 ⟨ok.same' (same_new hp o),Step.of_same (same_new hp o),.of (same_new hp o),fun z=>by rcases ok.fd p z with ⟨xs,e⟩ | ⟨xs,e,_⟩ | ⟨xs,e⟩<;>(rw [hp] at e;cases e)⟩
theorem rel_newTup {σ:L2.St} {G:Gh} {H:Hp} {F:Addr→Prop} {δ:Loc} {p:Addr} {ds:List D} {xs:List V} (ok:Ok K G F σ H δ) (hp:H p = none) (r:RelL K H F ds xs):Rel K (upd H p (.tup xs)) F (.tup ds) (.ref p):=by
 unfold Rel
 exact ⟨p,xs,rfl,SqT.of upd_same,RelL.step (G:=G) ok.fd (Step.of_same (same_new hp _)) ds xs r⟩
theorem rel_newLst {σ:L2.St} {G:Gh} {H:Hp} {F:Addr→Prop} {δ:Loc} {p:Addr} {ds:List D} {xs:List V} (ok:Ok K G F σ H δ) (hp:H p = none) (r:RelL K H F ds xs):Rel K (upd H p (.lst xs)) F (.lst ds) (.ref p):=by
 unfold Rel
 exact ⟨p,xs,rfl,.inl ⟨.inl upd_same,(ok.laid hp (.lst xs)).2.2.2⟩,RelL.step (G:=G) ok.fd (Step.of_same (same_new hp _)) ds xs r⟩
theorem snd_bin {a b:E} {y z:Expr} {op:Op} {o:Operator} {pos:Pos} (ho:opIs op o = true) (pc:(!isPk a || np b) = true) (ha:PE X y (tE X.K cx a)) (hb:PE X z (tE X.K cx b)):PE X (.BinOp y o z pos) (tE X.K cx (.bin op a b)):=by
 intro pins s σ H Q I h
 obtain ⟨G,F,δ,d,δ',ok,ev,post⟩:=h
 simp only [evE,Option.bind_eq_bind,Option.bind_eq_some_iff] at ev
 obtain ⟨⟨x,δ1⟩,ea,⟨y',δ2⟩,eb,d',hd,e⟩:=ev
 cases e
 dsimp only at eb hd post
 have fin:∀ v H2 F2,Step G F H F2 H2→((np a && np b) = true→Sim H H2)→Ok X.K G F2 σ H2 δ2→Rel X.K H2 F2 d v→Q v H2:=fun v H2 F2 st sm ok2 r=>post v H2 F2 st sm ok2 r
 cases op<;>cases o<;>first | (exact absurd ho Bool.false_ne_true) | skip
 · refine pe_op (op_add.or (op_add_str.or (op_catT.or op_catR))) ha hb pins s σ H Q I (two ok ea eb pc fun v u H2 F2 st sm ok2 r1 r2=>?_)
   change addD x y' = some d at hd
   unfold addD at hd
   split at hd
   · cases hd
     have e1:=r1.b.int;have e2:=r2.b.int;subst e1;subst e2
     exact .inl ⟨_,_,rfl,rfl,fin _ _ _ st sm ok2 (rel_int _)⟩
   · split at hd
     · cases hd
       have e1:=r1.b.str;have e2:=r2.b.str;subst e1;subst e2
       exact .inr (.inl ⟨_,_,rfl,rfl,‹_›,fin _ _ _ st sm ok2 (rel_str _)⟩)
     · cases hd
   · split at hd
     · rename_i q
       cases hd
       obtain ⟨p1,xs1,e1,s1,l1⟩:=r1.b.tup
       obtain ⟨p2,xs2,e2,s2,l2⟩:=r2.b.tup
       subst e1;subst e2
       refine .inr (.inr (.inl ⟨p1,p2,xs1,xs2,rfl,rfl,s1,s2,fun z=>q.1 ?_,by rw [l1.length,l2.length];exact q.2,fun z=>?_,fun _ p hp=>?_⟩))
       · have:=l1.length;rw [z] at this;exact List.length_eq_zero_iff.mp this.symm
       · refine fin _ _ _ st sm ok2 ?_
         have e:∀ {ys:List D},RelL X.K H2 F2 ys xs2→ys = []:=fun {ys} r=>by have:=r.length;rw [z] at this;exact List.length_eq_zero_iff.mp this.symm
         have:=e l2
         subst this
         rw [List.append_nil]
         unfold Rel
         exact ⟨p1,xs1,rfl,s1,l1⟩
       · obtain ⟨o1,o2,o3,o4⟩:=ok2.laid hp (.tup (xs1++xs2))
         exact fin _ _ _ (st.trans o2) (fun z=>(sm z).trans o3) o1 (rel_newTup ok2 hp (l1.append l2))
     · cases hd
   · split at hd
     · rename_i q
       cases hd
       obtain ⟨p1,xs1,e1,s1,l1⟩:=r1.b.lst
       obtain ⟨p2,xs2,e2,s2,l2⟩:=r2.b.lst
       subst e1;subst e2
       refine .inr (.inr (.inr ⟨p1,p2,xs1,xs2,rfl,rfl,s1,s2,by rw [l1.length,l2.length];exact q,fun p hp=>?_⟩))
       obtain ⟨o1,o2,o3,o4⟩:=ok2.laid hp (.lst (xs1++xs2))
       exact fin _ _ _ (st.trans o2) (fun z=>(sm z).trans o3) o1 (rel_newLst ok2 hp (l1.append l2))
     · cases hd
   · cases hd
 · refine pe_op op_sub ha hb pins s σ H Q I (two ok ea eb pc fun v u H2 F2 st sm ok2 r1 r2=>?_)
   change subD x y' = some d at hd
   unfold subD at hd
   split at hd<;>first | (cases hd;done) | skip
   cases hd
   have e1:=r1.b.int;have e2:=r2.b.int;subst e1;subst e2
   exact ⟨_,_,rfl,rfl,fin _ _ _ st sm ok2 (rel_int _)⟩
 · refine pe_op (op_mul.or op_mulS) ha hb pins s σ H Q I (two ok ea eb pc fun v u H2 F2 st sm ok2 r1 r2=>?_)
   change mulD x y' = some d at hd
   unfold mulD at hd
   split at hd<;>first | (cases hd;done) | skip
   · split at hd
     · rename_i q
       cases hd
       have e1:=r1.b.int;have e2:=r2.b.int;subst e1;subst e2
       refine .inl ⟨_,_,rfl,rfl,?_,fin _ _ _ st sm ok2 (rel_int _)⟩
       unfold mulOk at q
       simpa [CMul] using q
     · cases hd
   · split at hd
     · rename_i q
       cases hd
       have e1:=r1.b.str;have e2:=r2.b.int;subst e1;subst e2
       exact .inr ⟨_,_,rfl,rfl,q,fin _ _ _ st sm ok2 (rel_str _)⟩
     · cases hd
 · refine pe_op op_mod ha hb pins s σ H Q I (two ok ea eb pc fun v u H2 F2 st sm ok2 r1 r2=>?_)
   change modD x y' = some d at hd
   unfold modD at hd
   split at hd<;>first | (cases hd;done) | skip
   split at hd
   · rename_i q
     cases hd
     have e1:=r1.b.int;have e2:=r2.b.int;subst e1;subst e2
     exact ⟨_,_,rfl,rfl,q,fin _ _ _ st sm ok2 (rel_int _)⟩
   · cases hd
 · refine pe_op op_fdiv ha hb pins s σ H Q I (two ok ea eb pc fun v u H2 F2 st sm ok2 r1 r2=>?_)
   change fdivD x y' = some d at hd
   unfold fdivD at hd
   split at hd<;>first | (cases hd;done) | skip
   split at hd
   · rename_i q
     cases hd
     have e1:=r1.b.int;have e2:=r2.b.int;subst e1;subst e2
     exact ⟨_,_,rfl,rfl,q,fin _ _ _ st sm ok2 (rel_int _)⟩
   · cases hd
 · refine pe_op op_pow ha hb pins s σ H Q I (two ok ea eb pc fun v u H2 F2 st sm ok2 r1 r2=>?_)
   change powD x y' = some d at hd
   unfold powD at hd
   split at hd<;>first | (cases hd;done) | skip
   split at hd
   · rename_i q
     cases hd
     have e1:=r1.b.int;have e2:=r2.b.int;subst e1;subst e2
     exact ⟨_,_,rfl,rfl,q,fin _ _ _ st sm ok2 (rel_int _)⟩
   · cases hd
end
end PP
end
section
namespace PP
open PySem L2 PySem.SeqAt PyProof.Rows PySem.W
variable [Tbs]
theorem sortable_inv {ds:List D} (h:sortable ds = true):ds.length < 64∧(∀ x∈ds,headK x≠0∧headK x = headK (ds.getD 0 .non))∧∀ x∈ds,∀ y∈ds,∃ k,ltOk x y = some k:=by
 unfold sortable at h
 simp only [Bool.and_eq_true,List.all_eq_true,decide_eq_true_eq] at h
 obtain ⟨⟨h1,h2⟩,h3⟩:=h
 refine ⟨h1,fun x hx=>?_,fun x hx y hy=>Option.isSome_iff_exists.mp (h3 x hx y hy)⟩
 have:=h2 x hx
 exact ⟨by simpa using this.1,by simpa using this.2⟩
theorem sortL_len (ds:List D):(sortL ds).length = ds.length:=by
 unfold sortL
 by_cases h:ds.length < 2
 · rw [if_pos h]
 · rw [if_neg h,List.length_map,(sort_list ds.length).length_eq,List.length_range]
theorem RelL_map {K:PySem.W.Frag} {H:Hp} {F:Addr→Prop} {ds:List D} {xs:List V} (r:RelL K H F ds xs):∀ (is:List Nat),(∀ i∈is,i < ds.length)→RelL K H F (is.map fun i=>ds.getD i .non) (is.map fun i=>xs.getD i .non)
 | [],_=>RelL.nil
 | i::is,h=>by
   have hi:=h i List.mem_cons_self
   obtain ⟨v,hv,rv⟩:=r.get (i:=i) (d:=ds.getD i .non) (by simp [hi])
   have e:xs.getD i .non = v:=by simp [hv]
   rw [List.map_cons,List.map_cons,e]
   exact RelL.cons rv (RelL_map r is fun j hj=>h j (List.mem_cons_of_mem _ hj))
theorem Vals_map {xs:List V} {us:List Value} (r:Vals xs us):∀ (is:List Nat),(∀ i∈is,i < xs.length)→Vals (is.map fun i=>xs.getD i .non) (is.map fun i=>us.getD i Value.none)
 | [],_=>.nil
 | i::is,h=>by
   have hi:=h i List.mem_cons_self
   obtain ⟨u,hu,ru⟩:=r.get (i:=i) (x:=xs.getD i .non) (by simp [hi])
   have e:us.getD i Value.none = u:=by simp [hu]
   rw [List.map_cons,List.map_cons,e]
   exact .cons ru (Vals_map r is fun j hj=>h j (List.mem_cons_of_mem _ hj))
theorem kind_D {M:Model} {A:Around} {E:Value→Shared→Prop} {s:Shared} {ds:List D} {us:List Value} (r:RdL s.heap ds us) (hk:∀ x∈ds,headK x≠0∧headK x = headK (ds.getD 0 .non)) (h2:2≤us.length) {Q:SortKind→Shared→Prop}
 (q:Q (if headK (ds.getD 0 .non) < 3 then oneType' else tuples' true) s):wpAny M A (keyKind' us.toArray) Q E s:=by
 have hl:=r.length
 have all:∀ v∈us,∃ d∈ds,RdV s.heap d v:=by
  have:∀ (ds:List D) (us:List Value),RdL s.heap ds us→∀ v∈us,∃ d∈ds,RdV s.heap d v:=by
   intro ds
   induction ds with
   | nil=>intro us r v hv;unfold RdL at r;subst r;cases hv
   | cons d ds ih =>
     intro us r v hv
     unfold RdL at r
     obtain ⟨w,ws,rfl,r1,r2⟩:=r
     rcases List.mem_cons.mp hv with rfl | hv
     · exact ⟨d,List.mem_cons_self,r1⟩
     · obtain ⟨d',h1,h2⟩:=ih ws r2 v hv
       exact ⟨d',List.mem_cons_of_mem _ h1,h2⟩
  exact this ds us r
 generalize hn:headK (ds.getD 0 .non) = n at hk q
 have tups:∀ (T:Value) (P:D→Prop),(∀ d,P d→∀ u,RdV s.heap d u→Looks M s.heap (typeOf u) T)→(∀ x∈ds,∃ y r,x = .tup (y::r)∧P y)→∃ fs,KatTups s.heap us fs∧fs.length = us.length∧∀ v∈fs,Looks M s.heap (typeOf v) T:=by
  intro T P hP hx
  have:∀ (ds:List D) (us:List Value),RdL s.heap ds us→(∀ x∈ds,∃ y r,x = .tup (y::r)∧P y)→∃ fs,KatTups s.heap us fs∧fs.length = us.length∧∀ v∈fs,Looks M s.heap (typeOf v) T:=by
   intro ds
   induction ds with
   | nil=>intro us r _;unfold RdL at r;subst r;exact ⟨[],KatTups.nil,rfl,fun v hv=>by cases hv⟩
   | cons d ds ih =>
     intro us r hx
     unfold RdL at r
     obtain ⟨w,ws,rfl,r1,r2⟩:=r
     obtain ⟨fs,f1,f2,f3⟩:=ih ws r2 fun x h=>hx x (List.mem_cons_of_mem _ h)
     obtain ⟨y,rr,rfl,py⟩:=hx d List.mem_cons_self
     unfold RdV at r1
     obtain ⟨a,its,rfl,⟨o,h1,hc,m,hd⟩,h3⟩:=r1
     unfold RdL at h3
     obtain ⟨f,fr,e,g1,g2⟩:=h3
     refine ⟨f::fs,KatTups.cons h1 hc hd ?_ f1,by simp [f2],fun v hv=>?_⟩
     · have:its.toList[0]? = some f:=by rw [e];rfl
       simpa using this
     · rcases List.mem_cons.mp hv with rfl | hv
       · exact hP y py _ g1
       · exact f3 v hv
  exact this ds us r hx
 match n,hk,q with
 | 0,hk,q =>
   obtain ⟨x,hx⟩:∃ x,x∈ds:=by
    cases ds with
    | nil=>rw [hl] at h2;simp at h2
    | cons x r=>exact ⟨x,List.mem_cons_self⟩
   exact absurd (hk x hx).2 (hk x hx).1
 | 1,hk,q =>
   refine kas_kind (T:=.type "str") h2 (fun v hv=>?_) (by decide) (by decide) q
   obtain ⟨d,hd,rd⟩:=all v hv
   have:=(hk d hd).2
   cases d<;>first | (simp [headK] at this;done) | skip
   · unfold RdV at rd
     obtain ⟨t,rfl⟩:=rd
     exact Looks.of_pure rfl
   · rename_i l;cases l with
     | nil=>simp [headK] at this
     | cons x r=>cases x<;>simp [headK] at this
 | 2,hk,q =>
   refine kas_kind (T:=.type "int") h2 (fun v hv=>?_) (by decide) (by decide) q
   obtain ⟨d,hd,rd⟩:=all v hv
   have:=(hk d hd).2
   cases d<;>first | (simp [headK] at this;done) | skip
   · unfold RdV at rd
     obtain ⟨t,rfl⟩:=rd
     exact Looks.of_pure rfl
   · rename_i l;cases l with
     | nil=>simp [headK] at this
     | cons x r=>cases x<;>simp [headK] at this
 | 3,hk,q =>
   obtain ⟨fs,f1,f2,f3⟩:=tups (.type "str") (fun y=>∃ x,y = .str x) (fun d ⟨x,e⟩ u rd=>by subst e;unfold RdV at rd;obtain ⟨t,rfl⟩:=rd;exact Looks.of_pure rfl) fun x hx=>by
    have:=(hk x hx).2
    cases x<;>first | (simp [headK] at this;done) | skip
    rename_i l;cases l with
    | nil=>simp [headK] at this
    | cons x r=>cases x<;>first | (simp [headK] at this;done) | exact ⟨_,_,rfl,_,rfl⟩
   exact kat_kind f1 (by omega) f3 (by decide) q
 | 4,hk,q =>
   obtain ⟨fs,f1,f2,f3⟩:=tups (.type "int") (fun y=>∃ x,y = .int x) (fun d ⟨x,e⟩ u rd=>by subst e;unfold RdV at rd;obtain ⟨t,rfl⟩:=rd;exact Looks.of_pure rfl) fun x hx=>by
    have:=(hk x hx).2
    cases x<;>first | (simp [headK] at this;done) | skip
    rename_i l;cases l with
    | nil=>simp [headK] at this
    | cons x r=>cases x<;>first | (simp [headK] at this;done) | exact ⟨_,_,rfl,_,rfl⟩
   exact kat_kind f1 (by omega) f3 (by decide) q
 | m+5,hk,q =>
   obtain ⟨x,hx⟩:∃ x,x∈ds:=by
    cases ds with
    | nil=>rw [hl] at h2;simp at h2
    | cons x r=>exact ⟨x,List.mem_cons_self⟩
   have:=(hk x hx).2
   exfalso
   cases x<;>first | (simp [headK] at this;done) | skip
   rename_i l;cases l with
   | nil=>simp [headK] at this
   | cons x r=>cases x<;>simp [headK] at this
theorem ask_D {prog:Program} {w:World} {A A':Around} {s:Shared} {h':Heap} {ds:List D} {its:List Value} (hu:A.units+200 < cLine) (hA:A'.units≤A.units+2) (rd:RdL s.heap ds its) (l3:its.length = ds.length) (hs:sortable ds = true)
 (k:∀ b o,s.heap.get? b = some o→h'.get? b = some o) (i j:Nat) (hi:i < its.length) (hj:j < its.length) (C:Bool→Shared→Prop) (c:C (ltIx ds i j) { s with heap:=h' }) :
 kas_ask prog w A' (if headK (ds.getD 0 .non) < 3 then oneType' else tuples' true) its i j C { s with heap:=h' }:=by
 obtain ⟨h64,hk,hlt⟩:=sortable_inv hs
 have mem:∀ i,i < its.length→ds.getD i .non∈ds:=fun i hi=>by
  have:i < ds.length:=by omega
  rw [List.getD_eq_getElem?_getD,List.getElem?_eq_getElem this]
  exact List.getElem_mem this
 obtain ⟨b,hb⟩:=hlt _ (mem i hi) _ (mem j hj)
 have eb:ltIx ds i j = b:=by unfold ltIx;rw [hb];rfl
 rw [eb] at c
 have ri:=RdV.keep k _ _ (RdL.nth i rd (by omega))
 have rj:=RdV.keep k _ _ (RdL.nth j rd (by omega))
 have ki:=hk _ (mem i hi)
 have kj:=hk _ (mem j hj)
 unfold ltOk at hb
 split at hb
 · rename_i hd
   unfold kas_ask
   generalize ds.getD i .non = x at ri hb hd ki
   generalize ds.getD j .non = y at rj hb hd kj
   generalize its.getD i Value.none = u at ri
   generalize its.getD j Value.none = v at rj
   generalize headK (ds.getD 0 .non) = n0 at ki kj
   by_cases h3:n0 < 3
   · rw [if_pos h3,keyLt'_oneType]
     refine one_D (s:={ s with heap:=h' }) ri rj ?_ hb c
     have:=ki.1
     have k1:n0 = 1∨n0 = 2:=by omega
     rcases k1 with k1 | k1
     · exact .inl ⟨by omega,by omega⟩
     · exact .inr ⟨by omega,by omega⟩
   · rw [if_neg h3]
     have tx:∀ z:D,headK z = n0→∃ p r,z = .tup (p::r)∧((n0 = 3∧headK p = 1)∨(n0 = 4∧headK p = 2)):=fun z hz=>by
      cases z<;>first | (simp [headK] at hz;omega) | skip
      rename_i l
      cases l with
      | nil=>simp [headK] at hz;omega
      | cons p r=>cases p<;>first | (simp [headK] at hz;omega) | exact ⟨_,_,rfl,by simp [headK] at hz ⊢;omega⟩
     obtain ⟨p1,r1,rfl,w1⟩:=tx x ki.2
     obtain ⟨p2,r2,rfl,w2⟩:=tx y kj.2
     unfold RdV at ri rj
     obtain ⟨a1,i1,rfl,⟨o1,g1,c1,m1,d1⟩,t1⟩:=ri
     obtain ⟨a2,i2,rfl,⟨o2,g2,c2,m2,d2⟩,t2⟩:=rj
     have z1:i1.size = (p1::r1).length:=by simpa using t1.length
     have z2:i2.size = (p2::r2).length:=by simpa using t2.length
     unfold ltD at hb
     unfold dep at hd
     refine kat_lt (s:={ s with heap:=h' }) g1 d1 g2 d2 (katLex_D (s:={ s with heap:=h' }) (p1::r1) (p2::r2) i1.toList i2.toList 0 t1 t2 (by omega) hb (by rw [z1,z2]) (fun _ x y hx hy=>?_) c)
     cases hx
     cases hy
     rcases w1 with ⟨e,w1⟩ | ⟨e,w1⟩<;>rcases w2 with ⟨e',w2⟩ | ⟨e',w2⟩<;>first | (exact .inl ⟨w1,w2⟩) | (exact .inr ⟨w1,w2⟩) | omega
 · cases hb
end PP
end
section
namespace PP
open PySem PySem.W PyProof.Rows
section
variable {prog:Program} {w:World} {A:Around} {E:Value→Shared→Prop} {s:Shared}
end
end PP
end
section
namespace PP
open PySem L2 PySem.SeqAt PyProof.Rows PySem.W
variable [Tbs]
end PP
end
section
namespace PP
open PySem L2 PyProof.Rows
variable [Tbs]
section
variable {K:PySem.W.Frag} {cx:Cl} {X:Cx}
theorem relm {H:Hp} {F:Addr→Prop} {d:D} {v:V} (r:Rel K H F d v):RelM false K H F d v:=r
def rC (K:PySem.W.Frag) (op:Cop):R2:=fun x y H Q=>∃ F a b k,RelB K H F a x∧RelB K H F b y∧cmpD op a b = some k∧Q (.bl k) H
theorem ordInv {p:Int→Int→Bool} {a b:D} {k:Bool} (h:ordD p a b = some k):∃ i j,a = .int i∧b = .int j∧k = p i j:=by
 unfold ordD at h
 split at h
 · cases h;exact ⟨_,_,rfl,rfl,rfl⟩
 · cases h
theorem inInv {a b:D} {k:Bool} (h:inD a b = some k):(∃ ds,(b = .lst ds∨b = .tup ds)∧dep a≤150∧k = ds.any fun y=>eqD y a)∨∃ x y,a = .str x∧b = .str y∧k = occS y x:=by
 unfold inD at h
 split at h
 · split at h
   · cases h;exact .inl ⟨_,.inl rfl,‹_›,rfl⟩
   · cases h
 · split at h
   · cases h;exact .inl ⟨_,.inr rfl,‹_›,rfl⟩
   · cases h
 · split at h
   · cases h;exact .inr ⟨_,_,rfl,rfl,rfl⟩
   · cases h
 · cases h
theorem op_notin_str:OpR X (compareOp .NotIn) (fun x y H Q=>∃ i j,x = .str i∧y = .str j∧Q (.bl (!occS j i)) H):=by
 intro pins s σ H x y v u Q I rx ry h
 obtain ⟨i,j,rfl,rfl,q⟩:=h
 obtain ⟨t,rfl⟩:=rx
 obtain ⟨t',rfl⟩:=ry
 exact PySem.P.notIn_str ⟨.bl _,H,I,rfl,q⟩
theorem OpR.imp {f:Value→Value→Sem Value} {r r':R2} (h:OpR X f r) (w:∀ x y H Q,r' x y H Q→r x y H Q):OpR X f r':=fun pins s σ H x y v u Q I rx ry q=>h pins s σ H x y v u Q I rx ry (w _ _ _ _ q)
theorem opC (hu:X.A.units+200 < cLine) {op:Cop} {o:CmpOp} (ho:copIs op o = true):OpR X (compareOp o) (rC X.K op):=by
 cases op<;>cases o<;>first | (exact absurd ho Bool.false_ne_true) | skip
 · exact OpR.imp (op_ltD hu) fun x y H Q ⟨F,a,b,k,ra,rb,e,q⟩=>⟨F,a,b,k,ra,rb,e,q⟩
 · refine OpR.imp op_gt fun x y H Q ⟨F,a,b,k,ra,rb,e,q⟩=>?_
   obtain ⟨i,j,rfl,rfl,rfl⟩:=ordInv e
   exact ⟨i,j,ra.int,rb.int,q⟩
 · refine OpR.imp (op_eqD hu) fun x y H Q ⟨F,a,b,k,ra,rb,e,q⟩=>?_
   change (if depOk a b = true then some (eqD a b) else none) = some k at e
   split at e
   · cases e;exact ⟨F,a,b,ra,rb,‹_›,q⟩
   · cases e
 · refine OpR.imp (op_neD hu) fun x y H Q ⟨F,a,b,k,ra,rb,e,q⟩=>?_
   change (if depOk a b = true then some (!eqD a b) else none) = some k at e
   split at e
   · cases e;exact ⟨F,a,b,ra,rb,‹_›,q⟩
   · cases e
 · intro pins s σ H x y v u Q I rx ry h
   obtain ⟨F,a,b,k,ra,rb,e,q⟩:=h
   rcases inInv e with ⟨ds,hb,hd,rfl⟩ | ⟨x',y',rfl,rfl,rfl⟩
   · refine op_inD hu pins s σ H x y v u Q I rx ry ⟨F,a,ds,ra,?_,hd,q⟩
     rcases hb with rfl | rfl
     · exact .inl rb
     · exact .inr rb
   · exact op_in_str pins s σ H x y v u Q I rx ry ⟨x',y',ra.str,rb.str,q⟩
 · intro pins s σ H x y v u Q I rx ry h
   obtain ⟨F,a,b,k,ra,rb,e,q⟩:=h
   change (inD a b).map (!·) = some k at e
   rw [Option.map_eq_some_iff] at e
   obtain ⟨k',e,rfl⟩:=e
   rcases inInv e with ⟨ds,hb,hd,rfl⟩ | ⟨x',y',rfl,rfl,rfl⟩
   · refine op_notInD hu pins s σ H x y v u Q I rx ry ⟨F,a,ds,ra,?_,hd,q⟩
     rcases hb with rfl | rfl
     · exact .inl rb
     · exact .inr rb
   · exact op_notin_str pins s σ H x y v u Q I rx ry ⟨x',y',ra.str,rb.str,q⟩
theorem cmp_ev {op:Cop} {a b:E} {δ:Loc} {d:D} {δ':Loc} (ev:evE cx (.cmp op a b) δ = some (d,δ')):∃ x δ1 y k,evE cx a δ = some (x,δ1)∧evE cx b δ1 = some (y,δ')∧cmpD op x y = some k∧d = .bl k:=by
 simp only [evE,Option.bind_eq_bind,Option.bind_eq_some_iff] at ev
 obtain ⟨⟨x,δ1⟩,ea,⟨y',δ2⟩,eb,k,hd,e⟩:=ev
 cases e
 exact ⟨x,δ1,y',k,ea,eb,hd,rfl⟩
theorem cmp_evT {op:Cop} {a b:E} {δ:Loc} {k:Bool} {δ':Loc} (ev:evT cx (.cmp op a b) δ = some (k,δ')):∃ x δ1 y,evE cx a δ = some (x,δ1)∧evE cx b δ1 = some (y,δ')∧cmpD op x y = some k:=by
 simp only [evT,Option.bind_eq_bind,Option.bind_eq_some_iff] at ev
 obtain ⟨⟨x,δ1⟩,ea,⟨y',δ2⟩,eb,k,hd,e⟩:=ev
 cases e
 exact ⟨x,δ1,y',ea,eb,hd⟩
theorem snd_cmp {a b:E} {y z:Expr} {op:Cop} {o:CmpOp} {pos:Pos} (hu:X.A.units+200 < cLine) (ho:copIs op o = true) (pc:(!isPk a || np b) = true) (ha:PE X y (tE X.K cx a)) (hb:PE X z (tE X.K cx b)) (hm:behindInMarks o z = false) :
 PE X (.Compare y [o] [z] pos) (tE X.K cx (.cmp op a b)):=by
 refine PE.imp (pe_cmpR (opC hu ho) ha hb hm) fun σ H Q h=>?_
 obtain ⟨G,F,δ,d,δ',ok,ev,post⟩:=h
 obtain ⟨x,δ1,y',k,ea,eb,hd,rfl⟩:=cmp_ev ev
 exact two ok ea eb pc fun v u H2 F2 st sm ok2 r1 r2=>⟨F2,x,y',k,r1.b,r2.b,hd,post _ H2 F2 st sm ok2 (relm (rel_bl k))⟩
theorem sndT_cmp {a b:E} {y z:Expr} {op:Cop} {o:CmpOp} {pos:Pos} (hu:X.A.units+200 < cLine) (ho:copIs op o = true) (pc:(!isPk a || np b) = true) (ha:PE X y (tE X.K cx a)) (hb:PE X z (tE X.K cx b)) (hm:behindInMarks o z = false) :
 PT X (.Compare y [o] [z] pos) (tT X.K cx (.cmp op a b)):=by
 refine PT.imp (pt_cmpR (opC hu ho) ha hb hm) fun σ H Q h=>?_
 obtain ⟨G,F,δ,k,δ',ok,ev,post⟩:=h
 obtain ⟨x,δ1,y',ea,eb,hd⟩:=cmp_evT ev
 exact two ok ea eb pc fun v u H2 F2 st sm ok2 r1 r2=>⟨F2,x,y',k,r1.b,r2.b,hd,k,rfl,post H2 F2 st sm ok2⟩
theorem rel_of {e:E} {H:Hp} {F:Addr→Prop} {d:D} {v:V} (n:(!isPk e) = true) (h:RelM (isPk e) K H F d v):Rel K H F d v:=by
 have e1:isPk e = false:=by simpa using n
 rw [e1] at h
 exact h
theorem snd_and {a b:E} {y z:Expr} {r:List Expr} {pos:Pos} (na:(!isPk a) = true) (nb:(!isPk b) = true) (ha:PE X y (tE X.K cx a)) (hb:PE X (.BoolOp .And (z::r) pos) (tE X.K cx b)):PE X (.BoolOp .And (y::z::r) pos) (tE X.K cx (.and a b)):=by
 refine PE.imp (pe_and ha hb) fun σ H Q h=>?_
 obtain ⟨G,F,δ,d,δ',ok,ev,post⟩:=h
 simp only [evE,Option.bind_eq_bind,Option.bind_eq_some_iff] at ev
 obtain ⟨⟨x,δ1⟩,ea,ev⟩:=ev
 refine ⟨G,F,δ,x,δ1,ok,ea,fun v H1 F1 st1 sm1 ok1 r1=>?_⟩
 replace r1:=rel_of na r1
 have np1:np (.and a b) = (np a && np b):=rfl
 cases x with
 | bl k =>
   unfold Rel at r1
   refine ⟨k,r1,?_⟩
   cases k with
   | true =>
     rw [if_pos rfl]
     refine ⟨G,F1,δ1,d,δ',ok1,ev,fun u H2 F2 st2 sm2 ok2 r2=>post u H2 F2 (st1.trans st2) (fun n=>?_) ok2 (relm (rel_of nb r2))⟩
     rw [np1,Bool.and_eq_true] at n
     exact (sm1 n.1).trans (sm2 n.2)
   | false =>
     rw [if_neg Bool.false_ne_true]
     cases ev
     exact post _ H1 F1 st1 (fun n=>by rw [np1,Bool.and_eq_true] at n;exact sm1 n.1) ok1 (relm (rel_bl false))
 | _=>cases ev
theorem snd_or {a b:E} {y z:Expr} {r:List Expr} {pos:Pos} (na:(!isPk a) = true) (nb:(!isPk b) = true) (ha:PE X y (tE X.K cx a)) (hb:PE X (.BoolOp .Or (z::r) pos) (tE X.K cx b)):PE X (.BoolOp .Or (y::z::r) pos) (tE X.K cx (.or a b)):=by
 refine PE.imp (pe_or ha hb) fun σ H Q h=>?_
 obtain ⟨G,F,δ,d,δ',ok,ev,post⟩:=h
 simp only [evE,Option.bind_eq_bind,Option.bind_eq_some_iff] at ev
 obtain ⟨⟨x,δ1⟩,ea,ev⟩:=ev
 refine ⟨G,F,δ,x,δ1,ok,ea,fun v H1 F1 st1 sm1 ok1 r1=>?_⟩
 replace r1:=rel_of na r1
 have np1:np (.or a b) = (np a && np b):=rfl
 cases x with
 | bl k =>
   unfold Rel at r1
   refine ⟨k,r1,?_⟩
   cases k with
   | false =>
     rw [if_neg Bool.false_ne_true]
     refine ⟨G,F1,δ1,d,δ',ok1,ev,fun u H2 F2 st2 sm2 ok2 r2=>post u H2 F2 (st1.trans st2) (fun n=>?_) ok2 (relm (rel_of nb r2))⟩
     rw [np1,Bool.and_eq_true] at n
     exact (sm1 n.1).trans (sm2 n.2)
   | true =>
     rw [if_pos rfl]
     cases ev
     exact post _ H1 F1 st1 (fun n=>by rw [np1,Bool.and_eq_true] at n;exact sm1 n.1) ok1 (relm (rel_bl true))
 | _=>cases ev
theorem snd_not {a:E} {y:Expr} {pos:Pos} (na:(!isPk a) = true) (ha:PE X y (tE X.K cx a)):PE X (.UnaryOp .Not y pos) (tE X.K cx (.not a)):=by
 refine PE.imp (pe_not ha) fun σ H Q h=>?_
 obtain ⟨G,F,δ,d,δ',ok,ev,post⟩:=h
 simp only [evE,Option.bind_eq_bind,Option.bind_eq_some_iff] at ev
 obtain ⟨⟨x,δ1⟩,ea,ev⟩:=ev
 refine ⟨G,F,δ,x,δ1,ok,ea,fun v H1 F1 st1 sm1 ok1 r1=>?_⟩
 replace r1:=rel_of na r1
 cases x with
 | bl k =>
   unfold Rel at r1
   cases ev
   exact ⟨k,r1,post _ H1 F1 st1 sm1 ok1 (relm (rel_bl _))⟩
 | _=>cases ev
theorem PT.pw {op:BoolOp} {vs:List Expr} {pos:Pos} {t:TT} (h:PT X (.BoolOp op vs pos) t):PW X (.BoolOp op vs pos) t:=fun _ pins s σ H Q I q=>h pins s σ H Q I q
theorem sndT_and {a b:E} {y z:Expr} {r:List Expr} {pos:Pos} (ha:PT X y (tT X.K cx a)) (hb:PW X (.BoolOp .And (z::r) pos) (tT X.K cx b)):PT X (.BoolOp .And (y::z::r) pos) (tT X.K cx (.and a b)):=by
 refine PT.imp (pw_and ha hb).pt fun σ H Q h=>?_
 obtain ⟨G,F,δ,d,δ',ok,ev,post⟩:=h
 simp only [evT,Option.bind_eq_bind,Option.bind_eq_some_iff] at ev
 obtain ⟨⟨k,δ1⟩,ea,ev⟩:=ev
 have np1:np (.and a b) = (np a && np b):=rfl
 refine ⟨G,F,δ,k,δ1,ok,ea,fun H1 F1 st1 sm1 ok1=>?_⟩
 cases k with
 | true =>
   rw [if_pos rfl]
   refine ⟨G,F1,δ1,d,δ',ok1,ev,fun H2 F2 st2 sm2 ok2=>post H2 F2 (st1.trans st2) (fun n=>?_) ok2⟩
   rw [np1,Bool.and_eq_true] at n
   exact (sm1 n.1).trans (sm2 n.2)
 | false =>
   rw [if_neg Bool.false_ne_true]
   cases ev
   exact post H1 F1 st1 (fun n=>by rw [np1,Bool.and_eq_true] at n;exact sm1 n.1) ok1
theorem sndT_or {a b:E} {y z:Expr} {r:List Expr} {pos:Pos} (ha:PT X y (tT X.K cx a)) (hb:PW X (.BoolOp .Or (z::r) pos) (tT X.K cx b)):PT X (.BoolOp .Or (y::z::r) pos) (tT X.K cx (.or a b)):=by
 refine PT.imp (pw_or ha hb).pt fun σ H Q h=>?_
 obtain ⟨G,F,δ,d,δ',ok,ev,post⟩:=h
 simp only [evT,Option.bind_eq_bind,Option.bind_eq_some_iff] at ev
 obtain ⟨⟨k,δ1⟩,ea,ev⟩:=ev
 have np1:np (.or a b) = (np a && np b):=rfl
 refine ⟨G,F,δ,k,δ1,ok,ea,fun H1 F1 st1 sm1 ok1=>?_⟩
 cases k with
 | false =>
   rw [if_neg Bool.false_ne_true]
   refine ⟨G,F1,δ1,d,δ',ok1,ev,fun H2 F2 st2 sm2 ok2=>post H2 F2 (st1.trans st2) (fun n=>?_) ok2⟩
   rw [np1,Bool.and_eq_true] at n
   exact (sm1 n.1).trans (sm2 n.2)
 | true =>
   rw [if_pos rfl]
   cases ev
   exact post H1 F1 st1 (fun n=>by rw [np1,Bool.and_eq_true] at n;exact sm1 n.1) ok1
theorem sndT_not {a:E} {y:Expr} {pos:Pos} (ha:PT X y (tT X.K cx a)):PT X (.UnaryOp .Not y pos) (tT X.K cx (.not a)):=by
 refine PT.imp (pt_not ha) fun σ H Q h=>?_
 obtain ⟨G,F,δ,d,δ',ok,ev,post⟩:=h
 simp only [evT,Option.bind_eq_bind,Option.bind_eq_some_iff] at ev
 obtain ⟨⟨k,δ1⟩,ea,ev⟩:=ev
 cases ev
 exact ⟨G,F,δ,k,δ1,ok,ea,fun H1 F1 st1 sm1 ok1=>post H1 F1 st1 sm1 ok1⟩
theorem snd_ite {c a b:E} {t y z:Expr} {pos:Pos} (na:(!isPk a) = true) (nb:(!isPk b) = true) (hc:PT X t (tT X.K cx c)) (ha:PE X y (tE X.K cx a)) (hb:PE X z (tE X.K cx b)):PE X (.IfExp t y z pos) (tE X.K cx (.ite c a b)):=by
 refine PE.imp (pe_ifExp hc ha hb) fun σ H Q h=>?_
 obtain ⟨G,F,δ,d,δ',ok,ev,post⟩:=h
 simp only [evE,Option.bind_eq_bind,Option.bind_eq_some_iff] at ev
 obtain ⟨⟨k,δ1⟩,ea,ev⟩:=ev
 have np1:np (.ite c a b) = (np c && np a && np b):=rfl
 refine ⟨G,F,δ,k,δ1,ok,ea,fun H1 F1 st1 sm1 ok1=>?_⟩
 cases k with
 | true =>
   rw [if_pos rfl]
   refine ⟨G,F1,δ1,d,δ',ok1,ev,fun u H2 F2 st2 sm2 ok2 r2=>post u H2 F2 (st1.trans st2) (fun n=>?_) ok2 (relm (rel_of na r2))⟩
   rw [np1,Bool.and_eq_true,Bool.and_eq_true] at n
   exact (sm1 n.1.1).trans (sm2 n.1.2)
 | false =>
   rw [if_neg Bool.false_ne_true]
   refine ⟨G,F1,δ1,d,δ',ok1,ev,fun u H2 F2 st2 sm2 ok2 r2=>post u H2 F2 (st1.trans st2) (fun n=>?_) ok2 (relm (rel_of nb r2))⟩
   rw [np1,Bool.and_eq_true,Bool.and_eq_true] at n
   exact (sm1 n.1.1).trans (sm2 n.2)
theorem Ok.look {σ:L2.St} {G:Gh} {H:Hp} {F:Addr→Prop} {δ:Loc} (ok:Ok K G F σ H δ) {i:Nat} {d:D} (e:get δ i = some d):∃ v,σ[i]? = some (some v)∧RelB K H F d v∧∃ F',Step G F H F' H∧Ok K G F' σ H (PP.demote δ i)∧Rel K H F' d v:=by
 unfold get at e
 cases q:δ[i]? with
 | none=>rw [q] at e;cases e
 | some s =>
   rw [q] at e
   cases s with
   | no=>cases e
   | fnc _ _=>cases e
   | val d' =>
     cases e
     obtain ⟨v,e1,r⟩:=ok.sl i _ q
     refine ⟨v,e1,.inl r,F,Step.refl,?_,r⟩
     unfold PP.demote;rw [q];exact ok
   | own ds =>
     cases e
     obtain ⟨a,xs,e1,h1,h2,h3,h4⟩:=ok.sl i _ q
     obtain ⟨o1,o2⟩:=ok.demote q e1
     refine ⟨.ref a,e1,.inr ⟨a,xs,ds,rfl,rfl,h3,h4⟩,fun b=>F b∧b≠a,⟨fun _ _ _ z _=>z,fun b z=>.inl z.1,fun b o r z e=>⟨⟨z,fun w=>h2.2 (by rw [← w];exact r)⟩,e⟩,fun _ ps e=>⟨ps,e⟩⟩,?_,o2⟩
     unfold PP.demote;rw [q];exact o1
theorem snd_var {i:Nat} {x:Str} {pos:Pos} (hN:X.N[i]? = some x) (hv:Vis X.env.scope x) (hd:(x == ("__debug__":Str)) = false) (hcd:(x == ("__classdict__":Str)) = false):PE X (.Name x pos) (tE X.K cx (.var i)):=by
 refine PE.imp (pe_var hN hv hd hcd) fun σ H Q h=>?_
 obtain ⟨G,F,δ,d,δ',ok,ev,post⟩:=h
 simp only [evE,Option.bind_eq_bind,Option.bind_eq_some_iff] at ev
 obtain ⟨d',e1,e⟩:=ev
 cases e
 obtain ⟨v,ev,_,F',st,ok',r⟩:=ok.look e1
 exact ⟨v,ev,post v H F' st (fun _=>Sim.refl H) ok' (relm r)⟩
theorem snd_pk {i:Nat} {x:Str} {pos:Pos} (hN:X.N[i]? = some x) (hv:Vis X.env.scope x) (hd:(x == ("__debug__":Str)) = false) (hcd:(x == ("__classdict__":Str)) = false):PE X (.Name x pos) (tE X.K cx (.pk i)):=by
 refine PE.imp (pe_var hN hv hd hcd) fun σ H Q h=>?_
 obtain ⟨G,F,δ,d,δ',ok,ev,post⟩:=h
 simp only [evE,Option.bind_eq_bind,Option.bind_eq_some_iff] at ev
 obtain ⟨d',e1,e⟩:=ev
 cases e
 obtain ⟨v,ev,rb,_⟩:=ok.look e1
 exact ⟨v,ev,post v H F Step.refl (fun _=>Sim.refl H) ok rb⟩
theorem tru_of {H:Hp} {F:Addr→Prop} {d:D} {v:V} {k:Bool} (r:RelB K H F d v) (e:tv d = some k):TruV K v H k:=by
 cases d with
 | non=>cases e;rcases r with r | ⟨_,_,_,z,_⟩;(unfold Rel at r;subst r;rfl);cases z
 | bl b=>cases e;have:=r.bl;subst this;rfl
 | int i=>cases e;have:=r.int;subst this;rfl
 | str x =>
   change (if x.length≤sizeLine then some ((x.length:Int) != 0) else none) = some k at e
   split at e
   · cases e;have:=r.str;subst this;exact ⟨‹_›,rfl⟩
   · cases e
 | lst ds =>
   cases e
   obtain ⟨a,xs,rfl,h1,h2⟩:=r.lst
   refine .inl ⟨xs,h1.sq,?_⟩
   have:=h2.length
   cases ds<;>cases xs<;>first | rfl | (simp at this)
 | tup ds =>
   cases e
   obtain ⟨a,xs,rfl,h1,h2⟩:=r.tup
   refine .inr (.inl ⟨xs,h1,?_⟩)
   have:=h2.length
   cases ds<;>cases xs<;>first | rfl | (simp at this)
 | fn _ _=>cases e
theorem sndT_var {i:Nat} {x:Str} {pos:Pos} {e:E} (he:e = .var i∨e = .pk i) (hN:X.N[i]? = some x) (hv:Vis X.env.scope x) (hd:(x == ("__debug__":Str)) = false) (hcd:(x == ("__classdict__":Str)) = false):PT X (.Name x pos) (tT X.K cx e):=by
 refine PT.imp (pt_truth (pe_var hN hv hd hcd) fun _=>rfl) fun σ H Q h=>?_
 obtain ⟨G,F,δ,k,δ',ok,ev,post⟩:=h
 have ev':∃ d,get δ i = some d∧tv d = some k∧δ = δ':=by
  rcases he with rfl | rfl
  · simp only [evT,Option.bind_eq_bind,Option.bind_eq_some_iff] at ev
    obtain ⟨d,e1,k',e2,e⟩:=ev
    cases e
    exact ⟨d,e1,e2,rfl⟩
  · simp only [evT,Option.bind_eq_bind,Option.bind_eq_some_iff] at ev
    obtain ⟨d,e1,k',e2,e⟩:=ev
    cases e
    exact ⟨d,e1,e2,rfl⟩
 obtain ⟨d,e1,e2,rfl⟩:=ev'
 obtain ⟨v,ev,rb,_⟩:=ok.look e1
 exact ⟨v,ev,k,tru_of rb e2,post H F Step.refl (fun _=>Sim.refl H) ok⟩
theorem snd_int {i:Int} {j:Nat} {pos:Pos}:PE X (.Constant (.int i) j pos) (tE X.K cx (.int i)) :=
 PE.imp pe_int fun σ H Q ⟨G,F,δ,d,δ',ok,ev,post⟩=>by cases ev;exact post _ H F Step.refl (fun _=>Sim.refl H) ok (relm (rel_int i))
theorem snd_bl {i:Bool} {j:Nat} {pos:Pos}:PE X (.Constant (.bool i) j pos) (tE X.K cx (.bl i)) :=
 PE.imp pe_bl fun σ H Q ⟨G,F,δ,d,δ',ok,ev,post⟩=>by cases ev;exact post _ H F Step.refl (fun _=>Sim.refl H) ok (relm (rel_bl i))
theorem snd_str {i:Str} {j:Nat} {pos:Pos}:PE X (.Constant (.str i) j pos) (tE X.K cx (.str i)) :=
 PE.imp pe_str fun σ H Q ⟨G,F,δ,d,δ',ok,ev,post⟩=>by cases ev;exact post _ H F Step.refl (fun _=>Sim.refl H) ok (relm (rel_str i))
theorem snd_non {j:Nat} {pos:Pos}:PE X (.Constant .none j pos) (tE X.K cx .non) :=
 PE.imp pe_non fun σ H Q ⟨G,F,δ,d,δ',ok,ev,post⟩=>by cases ev;exact post _ H F Step.refl (fun _=>Sim.refl H) ok (relm rel_non)
theorem snd_glob {g:Nat} {x:Str} {u:Value} {v:V} {pos:Pos} (hg:Gl X x) (hm:X.mg x = some u) (r:RelV v u) (hr:∀ d,cx.gl[g]? = some d→∀ H F,Rel X.K H F d v) (hd:(x == ("__debug__":Str)) = false):PE X (.Name x pos) (tE X.K cx (.glob g)):=by
 refine PE.imp (pe_glob hg hm r hd) fun σ H Q h=>?_
 obtain ⟨G,F,δ,d,δ',ok,ev,post⟩:=h
 simp only [evE,Option.bind_eq_bind,Option.bind_eq_some_iff] at ev
 obtain ⟨d',e1,e⟩:=ev
 cases e
 exact post v H F Step.refl (fun _=>Sim.refl H) ok (relm (hr d e1 H F))
end
end PP
end
section
namespace PP
open PySem L2 PyProof.Rows
variable [Tbs]
section
variable {K:PySem.W.Frag} {cx:Cl} {X:Cx}
theorem snd_nil:PA X [] (tEs X.K cx .nil):=by
 refine fun pos pins s σ H Q I h=>pa_nil pos pins s σ H Q I ?_
 obtain ⟨G,F,δ,ds,δ',ok,ev,post⟩:=h
 simp only [evEs] at ev
 cases ev
 exact post [] H F Step.refl (fun _=>Sim.refl H) ok ⟨rfl,rfl⟩
theorem snd_cons {a:E} {es:Es} {y:Expr} {ys:List Expr} (pc:(!isPk a || npS es) = true) (ha:PE X y (tE X.K cx a)) (hr:PA X ys (tEs X.K cx es)) (hs:starEach (y::ys) X.env = (false,eval y X.env)::starEach ys X.env):PA X (y::ys) (tEs X.K cx (.cons a es)):=by
 refine fun pos pins s σ H Q I h=>pa_cons ha hr hs pos pins s σ H Q I ?_
 obtain ⟨G,F,δ,ds,δ',ok,ev,post⟩:=h
 simp only [evEs,Option.bind_eq_bind,Option.bind_eq_some_iff] at ev
 obtain ⟨⟨x,δ1⟩,ea,⟨ds',δ2⟩,eb,e⟩:=ev
 cases e
 refine ⟨G,F,δ,x,δ1,ok,ea,fun v H1 F1 st1 sm1 ok1 r1=>⟨G,F1,δ1,ds',δ2,ok1,eb,fun vs H2 F2 st2 sm2 ok2 r2=>?_⟩⟩
 refine post (v::vs) H2 F2 (st1.trans st2) (fun z=>?_) ok2 ⟨x,ds',v,vs,rfl,rfl,RelM.step ok1.fd st2 (fun z=>sm2 (by rw [z] at pc;simpa using pc)) r1,r2⟩
 have z':(np a && npS es) = true:=z
 rw [Bool.and_eq_true] at z'
 exact (sm1 z'.1).trans (sm2 z'.2)
theorem RelML.rl {H:Hp} {F:Addr→Prop}:∀ {es:Es} {ds:List D} {vs:List V},noPk es = true→RelML K H F es ds vs→RelL K H F ds vs
 | .nil,ds,vs,_,h=>by obtain ⟨rfl,rfl⟩:=h;exact RelL.nil
 | .cons e es,ds,vs,n,h=>by
   obtain ⟨d,ds',v,vs',rfl,rfl,h1,h2⟩:=h
   have n':(!isPk e && noPk es) = true:=n
   rw [Bool.and_eq_true] at n'
   exact RelL.cons (rel_of n'.1 h1) (RelML.rl n'.2 h2)
def RelBL (K:PySem.W.Frag) (H:Hp) (F:Addr→Prop):List D→List V→Prop
 | [],vs=>vs = []
 | d::ds,vs=>∃ v vs',vs = v::vs'∧RelB K H F d v∧RelBL K H F ds vs'
theorem RelML.bl {H:Hp} {F:Addr→Prop}:∀ {es:Es} {ds:List D} {vs:List V},RelML K H F es ds vs→RelBL K H F ds vs
 | .nil,ds,vs,h=>by obtain ⟨rfl,rfl⟩:=h;rfl
 | .cons e es,ds,vs,h=>by
   obtain ⟨d,ds',v,vs',rfl,rfl,h1,h2⟩:=h
   exact ⟨v,vs',rfl,h1.b,RelML.bl h2⟩
theorem es_ev {f:List D→Option D} {es:Es} {δ δ':Loc} {d:D} (ev:(do let (ds,δ1) ← evEs cx es δ;return (← f ds,δ1)) = some (d,δ')):∃ ds,evEs cx es δ = some (ds,δ')∧f ds = some d:=by
 simp only [Option.bind_eq_bind,Option.bind_eq_some_iff] at ev
 obtain ⟨⟨ds,δ1⟩,ea,d',hd,e⟩:=ev
 cases e
 exact ⟨ds,ea,hd⟩
theorem snd_tup {es:Es} {xs:List Expr} {k:Nat} {pos:Pos} (n:noPk es = true) (h:PA X xs (tEs X.K cx es)):PE X (.Tuple xs k pos) (tE X.K cx (.tup es)):=by
 refine PE.imp (pe_tup h) fun σ H Q h=>?_
 obtain ⟨G,F,δ,d,δ',ok,ev,post⟩:=h
 simp only [evE,Option.bind_eq_bind,Option.bind_eq_some_iff] at ev
 obtain ⟨⟨ds,δ1⟩,ea,ev⟩:=ev
 split at ev
 · rename_i hz
   cases ev
   refine ⟨G,F,δ,ds,δ1,ok,ea,fun vs H1 F1 st1 sm1 ok1 r1=>?_⟩
   have r:=r1.rl n
   refine ⟨by rw [r.length];exact hz,fun p hp=>?_⟩
   obtain ⟨o1,o2,o3,o4⟩:=ok1.laid hp (.tup vs)
   exact post _ _ _ (st1.trans o2) (fun z=>(sm1 z).trans o3) o1 (relm (rel_newTup ok1 hp r))
 · cases ev
theorem snd_lst {es:Es} {xs:List Expr} {pos:Pos} (n:noPk es = true) (h:PA X xs (tEs X.K cx es)):PE X (.List xs pos) (tE X.K cx (.lst es)):=by
 refine PE.imp (pe_lst h) fun σ H Q h=>?_
 obtain ⟨G,F,δ,d,δ',ok,ev,post⟩:=h
 simp only [evE,Option.bind_eq_bind,Option.bind_eq_some_iff] at ev
 obtain ⟨⟨ds,δ1⟩,ea,ev⟩:=ev
 split at ev
 · rename_i hz
   cases ev
   refine ⟨G,F,δ,ds,δ1,ok,ea,fun vs H1 F1 st1 sm1 ok1 r1=>?_⟩
   have r:=r1.rl n
   refine ⟨by rw [r.length];exact hz,fun p hp=>?_⟩
   obtain ⟨o1,o2,o3,o4⟩:=ok1.laid hp (.lst vs)
   exact post _ _ _ (st1.trans o2) (fun z=>(sm1 z).trans o3) o1 (relm (rel_newLst ok1 hp r))
 · cases ev
theorem RelL.at {H:Hp} {F:Addr→Prop} {ds:List D} {xs:List V} {i:Int} {d:D} (h:RelL K H F ds xs) (e:atI ds i = some d):∃ v,atI xs i = some v∧Rel K H F d v:=by
 unfold atI at e ⊢
 rw [h.length]
 cases q:ixN ds.length i with
 | none=>rw [q] at e;cases e
 | some j =>
   rw [q] at e
   exact h.get e
theorem snd_ix {a b:E} {y z:Expr} {pos:Pos} (pc:(!isPk a || np b) = true) (ha:PE X y (tE X.K cx a)) (hb:PE X z (tE X.K cx b)) (hp:PlainIx z):PE X (.Subscript y z pos) (tE X.K cx (.ix a b)):=by
 refine PE.imp (pe_ix ix_seq ha hb hp) fun σ H Q h=>?_
 obtain ⟨G,F,δ,d,δ',ok,ev,post⟩:=h
 simp only [evE,Option.bind_eq_bind,Option.bind_eq_some_iff] at ev
 obtain ⟨⟨x,δ1⟩,ea,⟨y',δ2⟩,eb,d',hd,e⟩:=ev
 cases e
 dsimp only at eb hd post
 refine two ok ea eb pc fun v u H2 F2 st sm ok2 r1 r2=>?_
 unfold ixD at hd
 split at hd
 · have e2:=r2.b.int
   obtain ⟨p,xs,e1,h1,h2⟩:=r1.b.lst
   obtain ⟨w,hw,rw'⟩:=h2.at hd
   exact .inl ⟨p,xs,_,w,e1,e2,h1.sq,hw,post _ _ _ st sm ok2 (relm rw')⟩
 · have e2:=r2.b.int
   obtain ⟨p,xs,e1,h1,h2⟩:=r1.b.tup
   obtain ⟨w,hw,rw'⟩:=h2.at hd
   exact .inr (.inl ⟨p,xs,_,w,e1,e2,h1,hw,post _ _ _ st sm ok2 (relm rw')⟩)
 · have e2:=r2.b.int
   have e1:=r1.b.str
   split at hd
   · rename_i hz
     rw [Option.map_eq_some_iff] at hd
     obtain ⟨c,hc,rfl⟩:=hd
     exact .inr (.inr ⟨_,_,c,e1,e2,hz,hc,post _ _ _ st sm ok2 (relm (rel_str _))⟩)
   · cases hd
 · cases hd
theorem snd_o {o:Eo} {l:Option Expr} (h:∀ e,o = .yes e→∃ y,l = some y∧(!isPk e) = true∧PE X y (tE X.K cx e)) (hn:o = .no→l = none):PO X l (tO X.K cx o):=by
 cases o with
 | no =>
   rw [hn rfl]
   intro pins s σ H Q I q
   refine po_none pins s σ H Q I ?_
   obtain ⟨G,F,δ,d,δ',ok,ev,post⟩:=q
   simp only [evO] at ev
   cases ev
   exact post H F Step.refl (fun _=>Sim.refl H) ok
 | yes e =>
   obtain ⟨y,rfl,n,hy⟩:=h e rfl
   intro pins s σ H Q I q
   refine po_some hy pins s σ H Q I ?_
   obtain ⟨G,F,δ,d,δ',ok,ev,post⟩:=q
   simp only [evO,Option.bind_eq_bind,Option.bind_eq_some_iff] at ev
   obtain ⟨⟨x,δ1⟩,ea,ev⟩:=ev
   cases x with
   | int i =>
     cases ev
     exact ⟨G,F,δ,.int i,δ',ok,ea,fun v H1 F1 st1 sm1 ok1 r1=>⟨i,by have:=rel_of n r1;unfold Rel at this;exact this,post H1 F1 st1 sm1 ok1⟩⟩
   | _=>cases ev
theorem snd_sl {a:E} {lo hi:Eo} {y:Expr} {l h:Option Expr} {pos p2:Pos} (pc:(!isPk a || (npO lo && npO hi)) = true) (ha:PE X y (tE X.K cx a)) (hl:PO X l (tO X.K cx lo)) (hh:PO X h (tO X.K cx hi)):PE X (.Subscript y (.Slice l h none p2) pos) (tE X.K cx (.sl a lo hi)):=by
 refine PE.imp (pe_slice (sl_list.or sl_tup) ha hl hh) fun σ H Q h=>?_
 obtain ⟨G,F,δ,d,δ',ok,ev,post⟩:=h
 simp only [evE,Option.bind_eq_bind,Option.bind_eq_some_iff] at ev
 obtain ⟨⟨x,δ1⟩,ea,⟨l',δ2⟩,eb,⟨h',δ3⟩,ec,d',hd,e⟩:=ev
 cases e
 dsimp only at eb ec hd post
 refine ⟨G,F,δ,x,δ1,ok,ea,fun v H1 F1 st1 sm1 ok1 r1=>⟨G,F1,δ1,l',δ2,ok1,eb,fun H2 F2 st2 sm2 ok2=>⟨G,F2,δ2,h',δ3,ok2,ec,fun H3 F3 st3 sm3 ok3=>?_⟩⟩⟩
 have st:=st2.trans st3
 have rb:RelB X.K H3 F3 x v:=by
  refine (RelM.step ok1.fd st (fun z=>?_) r1).b
  rw [z] at pc
  have pc':(npO lo && npO hi) = true:=by simpa using pc
  rw [Bool.and_eq_true] at pc'
  exact (sm2 pc'.1).trans (sm3 pc'.2)
 have fin:∀ w H4,Same H3 H4→Ok X.K G F3 σ H4 δ3→Rel X.K H4 F3 d w→Q w H4:=fun w H4 s4 o4 r4=>post w H4 F3 ((st1.trans st).trans (Step.of_same s4)) (fun z=>by
  have z':(np a && npO lo && npO hi) = true:=z
  rw [Bool.and_eq_true,Bool.and_eq_true] at z'
  exact (((sm1 z'.1.1).trans (sm2 z'.1.2)).trans (sm3 z'.2)).trans (.of s4)) o4 (relm r4)
 unfold slD at hd
 split at hd
 · cases hd
   obtain ⟨p,xs,e1,h1,h2⟩:=rb.lst
   refine .inl ⟨p,xs,e1,h1.sq,fun q hq=>?_⟩
   obtain ⟨o1,o2,o3,o4⟩:=ok3.laid hq (.lst (cutV xs l' h'))
   exact fin _ _ (same_new hq _) o1 (rel_newLst ok3 hq (h2.cut l' h'))
 · split at hd
   · cases hd
   · rename_i hw
     cases hd
     obtain ⟨p,xs,e1,h1,h2⟩:=rb.tup
     refine .inr ⟨p,xs,e1,h1,by rw [h2.length];exact hw,fun q hq=>?_⟩
     obtain ⟨o1,o2,o3,o4⟩:=ok3.laid hq (.tup (cutV xs l' h'))
     exact fin _ _ (same_new hq _) o1 (rel_newTup ok3 hq (h2.cut l' h'))
 · cases hd
def spF (K:PySem.W.Frag) (f:List D→Option D):Sp:=fun vs H Q _=>∃ F ds d,FD F H∧TF F∧Tabs H∧RelL K H F ds vs∧f ds = some d∧∀ v H',Sim H H'→Tabs H'→Rel K H' F d v→Q v H'
theorem snd_call {f:Nat} {es:Es} {x:Str} {y:Expr} {ys:List Expr} {k:Nat} {a:Addr} {fd:FuncData} {ps:List Str} {p pos:Pos} (n:noPk es = true) (fn:FnOk X.prog X.w X.K X.mg X.base CX0 k a fd ps (spF X.K (cx.call f))) (hr:Room k X.A) (hg:Gl X x)
 (hm:X.mg x = some (.ref a)) (hk:PySem.W.keepIn X.K (.ref a) = true) (hb:Binds X.K fd ps []) (hA:PA X (y::ys) (tEs X.K cx es)) (hd:(x == ("__debug__":Str)) = false) (he:starEach (y::ys) X.env = (false,eval y X.env)::starEach ys X.env) (hpl:(backTo pos (starEach ys X.env)).any (·.1) = false) :
 PE X (.Call (.Name x p) (y::ys) [] pos) (tE X.K cx (.call f es)):=by
 refine PE.imp (pe_call fn hr hg hm hk hb .nil (pass0) hA hd he hpl) fun σ H Q h=>?_
 obtain ⟨G,F,δ,d,δ',ok,ev,post⟩:=h
 simp only [evE] at ev
 obtain ⟨ds,ea,hd⟩:=es_ev ev
 refine ⟨G,F,δ,ds,δ',ok,ea,fun vs H1 F1 st1 sm1 ok1 r1=>?_⟩
 show spF X.K (cx.call f) (vs++[]) H1 Q E0
 rw [List.append_nil]
 exact ⟨F1,ds,d,ok1.fd,ok1.tf,ok1.tabs,r1.rl n,hd,fun v H2 s2 t2 r2=>post v H2 F1 (st1.trans (ok1.call s2 t2).2) (fun z=>(sm1 z).trans s2) (ok1.call s2 t2).1 (relm r2)⟩
theorem sndT_of {e:E} {x:Expr} {es:Es} {f:List D→Option D} (hE:PE X x (tE X.K cx e)) (he:∀ whole,isTrue x X.env whole = (do let v ← whole;standAt x.pos;holding [v] (truthy v))) (n:isPk e = false)
 (e1:∀ δ,evE cx e δ = (do let (ds,δ1) ← evEs cx es δ;return (← f ds,δ1))) (e2:∀ δ,evT cx e δ = (do let (ds,δ1) ← evEs cx es δ;let d ← f ds;return (← tv d,δ1))):PT X x (tT X.K cx e):=by
 refine PT.imp (pt_truth hE he) fun σ H Q h=>?_
 obtain ⟨G,F,δ,k,δ',ok,ev,post⟩:=h
 rw [e2] at ev
 simp only [Option.bind_eq_bind,Option.bind_eq_some_iff] at ev
 obtain ⟨⟨ds,δ1⟩,ea,d,hd,k',hk,e⟩:=ev
 cases e
 refine ⟨G,F,δ,d,δ1,ok,?_,fun v H1 F1 st1 sm1 ok1 r1=>⟨k,tru_of r1.b hk,post H1 F1 st1 sm1 ok1⟩⟩
 rw [e1]
 simp only [Option.bind_eq_bind,Option.bind_eq_some_iff]
 exact ⟨(ds,δ1),ea,d,hd,rfl⟩
def rB (K:PySem.W.Frag) (f:List D→Option D):List V→Hp→VK→Prop:=fun xs H Q=>∃ F ds d,FD F H∧RelBL K H F ds xs∧f ds = some d∧∀ v H',Same H H'→Rel K H' F d v→Q v H'
theorem CallR.imp {f:Value} {r r':List V→Hp→VK→Prop} (h:CallR X f r) (w:∀ xs H Q,r' xs H Q→r xs H Q):CallR X f r':=fun pins s σ H xs us Q I rv q=>h pins s σ H xs us Q I rv (w _ _ _ q)
theorem b1 {H:Hp} {F:Addr→Prop} {d:D} {xs:List V} (h:RelBL K H F [d] xs):∃ v,xs = [v]∧RelB K H F d v:=by
 obtain ⟨v,vs,rfl,h1,h2⟩:=h
 cases h2
 exact ⟨v,rfl,h1⟩
theorem b2 {H:Hp} {F:Addr→Prop} {d e:D} {xs:List V} (h:RelBL K H F [d,e] xs):∃ v u,xs = [v,u]∧RelB K H F d v∧RelB K H F e u:=by
 obtain ⟨v,vs,rfl,h1,u,us,rfl,h2,h3⟩:=h
 cases h3
 exact ⟨v,u,rfl,h1,h2⟩
theorem not_F {F:Addr→Prop} {H:Hp} {p:Addr} (fd:FD F H) (hp:H p = none):¬ F p:=fun z=>by rcases fd p z with ⟨xs,e⟩ | ⟨xs,e,_⟩ | ⟨xs,e⟩<;>(rw [hp] at e;cases e)
theorem cb_len:CallR X (.builtin "len") (rB X.K lenD):=by
 refine CallR.imp (call_len_seq.or call_len_str) fun xs H Q ⟨F,ds,d,fd,r,e,q⟩=>?_
 unfold lenD at e
 split at e
 · split at e
   · cases e
     obtain ⟨v,rfl,rv⟩:=b1 r
     exact .inr ⟨_,by rw [rv.str],‹_›,q _ _ (Same.refl H) (rel_int _)⟩
   · cases e
 · cases e
   obtain ⟨v,rfl,rv⟩:=b1 r
   obtain ⟨a,ys,rfl,h1,h2⟩:=rv.lst
   exact .inl ⟨a,ys,rfl,.inl h1.sq,by rw [h2.length];exact q _ _ (Same.refl H) (rel_int _)⟩
 · cases e
   obtain ⟨v,rfl,rv⟩:=b1 r
   obtain ⟨a,ys,rfl,h1,h2⟩:=rv.tup
   exact .inl ⟨a,ys,rfl,.inr h1,by rw [h2.length];exact q _ _ (Same.refl H) (rel_int _)⟩
 · cases e
theorem cb_min (hc:X.calm = true):CallR X (.builtin "min") (rB X.K minD):=by
 refine CallR.imp (call_min2 hc) fun xs H Q ⟨F,ds,d,fd,r,e,q⟩=>?_
 unfold minD at e
 split at e
 · cases e
   obtain ⟨v,u,rfl,r1,r2⟩:=b2 r
   exact ⟨_,_,by rw [r1.int,r2.int],q _ _ (Same.refl H) (rel_int _)⟩
 · cases e
theorem call_intS:CallR X (.type "int") (fun xs H Q=>∃ x n,xs = [.str x]∧PySem.intText? x = some n∧x.length≤640∧Q (.int n) H):=by
 intro pins s σ H xs us Q I rv h
 obtain ⟨x,n,rfl,h1,h2,q⟩:=h
 obtain ⟨u,rfl,ru⟩:=rv.one
 obtain ⟨t,rfl⟩:=ru
 exact PySem.W.KIN.call_text h1 h2 ⟨.int n,H,I.tok _,⟨_,rfl⟩,q⟩
theorem cb_int:CallR X (.type "int") (rB X.K toIntD):=by
 refine CallR.imp (call_int1.or call_intS) fun xs H Q ⟨F,ds,d,fd,r,e,q⟩=>?_
 unfold toIntD at e
 split at e
 · cases e
   obtain ⟨v,rfl,r1⟩:=b1 r
   exact .inl (.inl ⟨_,by rw [r1.int],q _ _ (Same.refl H) (rel_int _)⟩)
 · cases e
   obtain ⟨v,rfl,r1⟩:=b1 r
   exact .inl (.inr ⟨_,by rw [r1.bl],q _ _ (Same.refl H) (rel_int _)⟩)
 · split at e
   · rw [Option.map_eq_some_iff] at e
     obtain ⟨n,e1,rfl⟩:=e
     obtain ⟨v,rfl,r1⟩:=b1 r
     exact .inr ⟨_,n,by rw [r1.str],e1,‹_›,q _ _ (Same.refl H) (rel_int _)⟩
   · cases e
 · cases e
theorem cb_str:CallR X (.type "str") (rB X.K toStrD):=by
 refine CallR.imp call_str_int fun xs H Q ⟨F,ds,d,fd,r,e,q⟩=>?_
 unfold toStrD at e
 split at e
 · split at e
   · cases e
     obtain ⟨v,rfl,r1⟩:=b1 r
     exact ⟨_,by rw [r1.int],‹_›,q _ _ (Same.refl H) (rel_str _)⟩
   · cases e
 · cases e
theorem step0 {F:Addr→Prop} {H H':Hp} (h:Same H H'):Step g0 F H F H':=Step.of_same h
theorem cb_tup:CallR X (.type "tuple") (rB X.K toTupD):=by
 refine CallR.imp call_tuple_of fun xs H Q ⟨F,ds,d,fd,r,e,q⟩=>?_
 unfold toTupD at e
 split at e
 · cases e
   obtain ⟨v,rfl,r1⟩:=b1 r
   obtain ⟨a,ys,rfl,h1,h2⟩:=r1.lst
   refine ⟨a,ys,rfl,.inl ⟨h1.sq,fun l hl=>q _ _ (same_new hl _) ?_⟩⟩
   unfold Rel
   exact ⟨l,ys,rfl,SqT.of upd_same,RelL.step fd (step0 (same_new hl _)) _ _ h2⟩
 · cases e
   obtain ⟨v,rfl,r1⟩:=b1 r
   obtain ⟨a,ys,rfl,h1,h2⟩:=r1.tup
   refine ⟨a,ys,rfl,.inr ⟨h1,q _ _ (Same.refl H) ?_⟩⟩
   unfold Rel
   exact ⟨a,ys,rfl,h1,h2⟩
 · cases e
theorem cb_lst:CallR X (.type "list") (rB X.K toLstD):=by
 refine CallR.imp call_list_of fun xs H Q ⟨F,ds,d,fd,r,e,q⟩=>?_
 unfold toLstD at e
 split at e
 · cases e
   obtain ⟨v,rfl,r1⟩:=b1 r
   obtain ⟨a,ys,rfl,h1,h2⟩:=r1.lst
   refine ⟨a,ys,rfl,.inl h1.sq,fun l hl=>q _ _ (same_new hl _) ?_⟩
   unfold Rel
   exact ⟨l,ys,rfl,.inl ⟨.inl upd_same,not_F fd hl⟩,RelL.step fd (step0 (same_new hl _)) _ _ h2⟩
 · cases e
   obtain ⟨v,rfl,r1⟩:=b1 r
   obtain ⟨a,ys,rfl,h1,h2⟩:=r1.tup
   refine ⟨a,ys,rfl,.inr h1,fun l hl=>q _ _ (same_new hl _) ?_⟩
   unfold Rel
   exact ⟨l,ys,rfl,.inl ⟨.inl upd_same,not_F fd hl⟩,RelL.step fd (step0 (same_new hl _)) _ _ h2⟩
 · cases e
theorem intsD_rel {H:Hp} {F:Addr→Prop}:∀ {ds:List D} {ns:List Int} {xs:List V},intsD ds = some ns→RelL K H F ds xs→xs = ns.map V.int
 | [],ns,xs,e,r=>by cases e;unfold RelL at r;exact r
 | d::ds,ns,xs,e,r=>by
   unfold RelL at r
   obtain ⟨y,ys,rfl,h1,h2⟩:=r
   cases d with
   | int i =>
     unfold intsD at e
     rw [Option.map_eq_some_iff] at e
     obtain ⟨ms,e,rfl⟩:=e
     unfold Rel at h1
     rw [h1,intsD_rel e h2,List.map_cons]
   | _=>cases e
theorem cb_max (hc:X.calm = true):CallR X (.builtin "max") (rB X.K maxD):=by
 intro pins s σ H xs us Q I rv ⟨F,ds,d,fd,r,e,q⟩
 unfold maxD at e
 split at e
 · cases e
   obtain ⟨v,u,rfl,r1,r2⟩:=b2 r
   exact call_max2 hc pins s σ H _ us Q I rv ⟨_,_,by rw [r1.int,r2.int],q _ _ (Same.refl H) (rel_int _)⟩
 · rw [Option.bind_eq_some_iff] at e
   obtain ⟨ns,e,e'⟩:=e
   split at e'
   · cases e'
   · rename_i hne
     cases e'
     obtain ⟨v,rfl,r1⟩:=b1 r
     obtain ⟨a,ys,rfl,h1,h2⟩:=r1.lst
     rw [intsD_rel e h2] at h1
     exact call_maxL hc pins s σ H _ us Q I rv ⟨a,ns,rfl,hne,h1.sq,q _ _ (Same.refl H) (rel_int _)⟩
 · cases e
theorem snd_blt {f:Blt} {es:Es} {x:Str} {p pos:Pos} {xs:List Expr} (g:List D→Option D) (hg:bltD f = g) (h:PE X (.Call (.Name x p) xs [] pos) (tCB (rB X.K g) (tEs X.K cx es))):PE X (.Call (.Name x p) xs [] pos) (tE X.K cx (.blt f es)):=by
 subst hg
 refine PE.imp h fun σ H Q h=>?_
 obtain ⟨G,F,δ,d,δ',ok,ev,post⟩:=h
 simp only [evE] at ev
 obtain ⟨ds,ea,hd⟩:=es_ev ev
 refine ⟨G,F,δ,ds,δ',ok,ea,fun vs H1 F1 st1 sm1 ok1 r1=>?_⟩
 exact ⟨F1,ds,d,ok1.fd,r1.bl,hd,fun v H2 s2 r2=>post v H2 F1 (st1.trans (Step.of_same s2)) (fun z=>(sm1 z).trans (.of s2)) (ok1.same' s2) (relm r2)⟩
end
end PP
end
section
namespace PP
open PySem L2 PyProof.Rows
variable [Tbs]
section
variable {K:PySem.W.Frag} {cx:Cl} {X:Cx}
theorem snd_is {f:Blt} {e:E} {T:String} {y:Expr} {t:Str} {p pos tp:Pos} (hT:tyName f = some T) (ht:t = (T:Str)) (hg:Gl X "isinstance") (hm:X.mg "isinstance" = none) (hgt:Gl X t) (hmt:X.mg t = none) (hy:PE X y (tE X.K cx e)) (hs:starEach [y,.Name t tp] X.env = [(false,eval y X.env),(false,eval (.Name t tp) X.env)]) :
 PE X (.Call (.Name "isinstance" p) [y,.Name t tp] [] pos) (tE X.K cx (.blt f (.cons e .nil))):=by
 have hb:bootBuiltins t = some (.type T):=by
  subst ht
  cases f<;>simp [tyName] at hT<;>subst hT<;>rfl
 have hn:t≠"__name__":=by
  subst ht
  cases f<;>simp [tyName] at hT<;>subst hT<;>decide +kernel
 have hdb:(t == ("__debug__":Str)) = false:=by
  subst ht
  cases f<;>simp [tyName] at hT<;>subst hT<;>decide +kernel
 have hA:PA X [y,.Name t tp] (tCons (tE X.K cx e) (tCons (tC (.ty T)) tNil)):=pa_cons hy (pa_cons (pe_bltn hgt hmt hb rfl hn hdb) pa_nil rfl) hs
 refine PE.imp (pe_callB (call_isD hT) hg hm rfl hA (by decide +kernel) (by decide +kernel) hs rfl) fun σ H Q h=>?_
 obtain ⟨G,F,δ,d,δ',ok,ev,post⟩:=h
 simp only [evE] at ev
 obtain ⟨ds,ea,hd⟩:=es_ev ev
 simp only [evEs,Option.bind_eq_bind,Option.bind_eq_some_iff] at ea
 obtain ⟨⟨x,δ1⟩,ea,⟨ds',δ2⟩,eb,e2⟩:=ea
 cases eb
 cases e2
 obtain ⟨b,rfl⟩:∃ b,d = .bl b:=by
  cases f<;>simp [tyName] at hT<;>(cases x<;>simp [bltD,isIntD,isBoolD,isListD] at hd<;>exact ⟨_,hd.symm⟩)
 refine ⟨G,F,δ,x,δ1,ok,ea,fun v H1 F1 st1 sm1 ok1 r1=>?_⟩
 exact ⟨F1,x,v,b,r1.b,rfl,hd,post _ H1 F1 st1 (fun z=>sm1 (by have z':(np e && true) = true:=z;simpa using z')) ok1 (relm (rel_bl b))⟩
theorem snd_pop {i:Nat} {x:Str} {pos ap cp:Pos} (hN:X.N[i]? = some x) (hv:Vis X.env.scope x) (hd:(x == ("__debug__":Str)) = false) (hcd:(x == ("__classdict__":Str)) = false) (hl:ap.endLine = cp.line) :
 PE X (.Call (.Attribute (.Name x pos) "pop" ap) [] [] cp) (tE X.K cx (.pop i)):=by
 refine PE.imp (pe_bm0 PySem.F.plainAttrs_list PySem.F.slot_list_pop PySem.F.type_list_pop mt_pop (pe_var hN hv hd hcd) rfl (by simpa using hl)) fun σ H Q h=>?_
 obtain ⟨G,F,δ,d,δ',ok,ev,post⟩:=h
 simp only [evE] at ev
 cases q:δ[i]? with
 | none=>rw [q] at ev;cases ev
 | some s =>
   rw [q] at ev
   cases s with
   | no=>cases ev
   | fnc _ _=>cases ev
   | val _=>cases ev
   | own ds =>
     obtain ⟨a,xs,e1,h1,h2,h3,h4⟩:=ok.sl i _ q
     dsimp only at ev
     cases ql:ds.getLast? with
     | none=>rw [ql] at ev;cases ev
     | some d0 =>
       rw [ql] at ev
       cases ev
       have hlen:=h4.length
       have hg:ds[ds.length - 1]? = some d:=by rw [← List.getLast?_eq_getElem?];exact ql
       obtain ⟨w,hw,rw'⟩:=h4.get hg
       obtain ⟨o1,o2⟩:=ok.write q e1 (RelL.dropLast h4)
       refine ⟨.ref a,e1,.inl ⟨rfl,xs,.inl (.inl h3)⟩,a,xs,w,rfl,rfl,h3,by rw [hlen];exact hw,?_⟩
       exact post w _ F o2 (fun z=>absurd (show false = true from z) Bool.false_ne_true) o1 (relm (Rel.step ok.fd o2 d w rw'))
def rIsdig:V→List V→Hp→VK→Prop:=fun x vs H Q=>∃ t:Str,x = .str t∧vs = []∧Q (.bl (decide (t.length > 0) && t.cps.all Unicode.isDigit)) H
theorem mt_isdig:MtR X "str.isdigit" rIsdig:=by
 intro pins s σ H x xs v us Q I rx rv h
 obtain ⟨y,rfl,rfl,q⟩:=h
 obtain ⟨t,rfl⟩:=rx
 cases rv
 exact call_gives F.slot_str_isdigit (typeIs_str s y t) F.entry_str_isdigit (F.args_str_isdigit_1 _) (gives_str_isdigit y t) ⟨.bl _,H,I,rfl,q⟩
theorem snd_isdig {i:Nat} {x:Str} {pos ap cp:Pos} (hN:X.N[i]? = some x) (hv:Vis X.env.scope x) (hd:(x == ("__debug__":Str)) = false) (hcd:(x == ("__classdict__":Str)) = false) (hl:ap.endLine = cp.line) :
 PE X (.Call (.Attribute (.Name x pos) "isdigit" ap) [] [] cp) (tE X.K cx (.isdig i)):=by
 refine PE.imp (pe_bm0 PySem.F.plainAttrs_str PySem.F.slot_str_isdigit PySem.F.type_str_isdigit mt_isdig (pe_var hN hv hd hcd) rfl (by simpa using hl)) fun σ H Q h=>?_
 obtain ⟨G,F,δ,d,δ',ok,ev,post⟩:=h
 simp only [evE,Option.bind_eq_bind,Option.bind_eq_some_iff] at ev
 obtain ⟨z,e1,ev⟩:=ev
 cases z with
 | str y =>
   cases ev
   unfold PP.get at e1
   split at e1
   · rename_i d0 q0
     cases e1
     obtain ⟨v,e2,r⟩:=ok.sl i _ q0
     unfold Rel at r
     subst r
     exact ⟨_,e2,rfl,y,rfl,rfl,post _ H F Step.refl (fun _=>Sim.refl H) ok (relm (rel_bl _))⟩
   · cases e1
   · cases e1
 | _=>cases ev
theorem wk_list {G:Gh} {H:Hp} {F:Addr→Prop} {a:Addr} {xs:List V} {ds:List D} (fd:FD F H) (h1:Ls K H F a xs) (h3:RelL K H F ds xs):Wk K G F H (Itl K a) ds:=by
 intro F2 H2 st fd2 i
 have h4:=(h1.step st).sq
 have h5:=RelL.step fd st ds xs h3
 refine ⟨fun d e=>?_,fun e=>⟨xs,h4,by rw [h5.length];omega⟩⟩
 obtain ⟨v,hv,rv⟩:=h5.get e
 refine ⟨⟨xs,v,h4,hv⟩,fun x H3 y=>?_⟩
 obtain ⟨e3,y⟩:=y
 refine ⟨e3,?_⟩
 have:=y xs h4
 rw [hv] at this
 cases this
 exact rv
theorem wk_tup {G:Gh} {H:Hp} {F:Addr→Prop} {a:Addr} {xs:List V} {ds:List D} (fd:FD F H) (h1:SqT K H a xs) (h3:RelL K H F ds xs):Wk K G F H (Itt K a) ds:=by
 intro F2 H2 st fd2 i
 have h4:=sqt_keep fd st.keep h1
 have h5:=RelL.step fd st ds xs h3
 refine ⟨fun d e=>?_,fun e=>⟨xs,h4,by rw [h5.length];omega⟩⟩
 obtain ⟨v,hv,rv⟩:=h5.get e
 refine ⟨⟨xs,v,h4,hv⟩,fun x H3 y=>?_⟩
 obtain ⟨e3,y⟩:=y
 refine ⟨e3,?_⟩
 have:=y xs h4
 rw [hv] at this
 cases this
 exact rv
theorem wk_str {G:Gh} {H:Hp} {F:Addr→Prop} {x:Str}:Wk K G F H (Its x) (x.cps.toList.map fun c=>D.str ⟨#[c]⟩):=by
 intro F2 H2 st fd2 i
 refine ⟨fun d e=>?_,fun e=>by show i = x.cps.size;simpa using e⟩
 rw [List.getElem?_map,Option.map_eq_some_iff] at e
 obtain ⟨c,hc,rfl⟩:=e
 have hc':x.cps[i]? = some c:=by simpa using hc
 refine ⟨(Array.getElem?_eq_some_iff.mp hc').1,fun v H3 y=>?_⟩
 obtain ⟨e3,c',h1,h2⟩:=y
 refine ⟨e3,?_⟩
 rw [hc'] at h1
 cases h1
 rw [h2]
 exact rel_str _
theorem wk_rng {G:Gh} {H:Hp} {F:Addr→Prop} {lo:Int} {n:Nat}:Wk K G F H (Itr lo n) (rngD lo n):=by
 intro F2 H2 st fd2 i
 unfold rngD
 refine ⟨fun d e=>?_,fun e=>by rw [e];simp;exact Nat.le_refl n⟩
 rw [List.getElem?_map,Option.map_eq_some_iff] at e
 obtain ⟨c,hc,rfl⟩:=e
 have hl:i < n:=by have:=(List.getElem?_eq_some_iff.mp hc).1;simpa using this
 rw [List.getElem?_range hl] at hc
 cases hc
 refine ⟨hl,fun v H3 y=>?_⟩
 obtain ⟨e3,h2⟩:=y
 exact ⟨e3,by rw [h2];exact rel_int _⟩
def iAny (K:PySem.W.Frag) (tl:TE):TI:=fun σ H R=>tl σ H fun v H1=>(∃ a,v = .ref a∧(∃ xs,SqL K H1 a xs)∧R (Itl K a) H1)∨(∃ a,v = .ref a∧(∃ xs,SqT K H1 a xs)∧R (Itt K a) H1)∨∃ x,v = .str x∧R (Its x) H1
theorem pi_any {tg l:Expr} {tl:TE} (hl:PE X l tl):PI X tg l (iAny X.K tl):=by
 intro pins s σ H R I h
 have key:∀ {v:Value} {s1:Shared} {x:V} {H1:Hp},Inv X pins σ H1 s1→RelV x v→((∃ a,x = .ref a∧(∃ xs,SqL X.K H1 a xs)∧R (Itl X.K a) H1)∨(∃ a,x = .ref a∧(∃ xs,SqT X.K H1 a xs)∧R (Itt X.K a) H1)∨∃ y,x = .str y∧R (Its y) H1) →
  wpAny (model X.prog X.w) X.A (pyIter v) (PIE X pins σ tg R) X.xe s1:=by
  intro v s1 x H1 I1 r1 q1
  rcases q1 with ⟨a,rfl,⟨xs,hq⟩,q⟩ | ⟨a,rfl,⟨xs,hq⟩,q⟩ | ⟨z,rfl,q⟩
  · cases r1
    obtain ⟨its,rv,p,hz⟩:=I1.list hq
    refine wpAny_pyIter_list p.isList ?_
    refine ⟨s1.heap.objs.size,[s1.heap.objs.size],_,_,H1,rfl,I1.kept (t':=s1.toks) fun b o e=>Heap.get?_push_of_some _ e,turn_list a _,⟨_,Heap.get?_push_size _ rfl,rfl,rfl⟩,fun b hb=>?_,q⟩
    have e:b = s1.heap.objs.size:=by simpa using hb
    subst e
    exact I1.fpOk (Nat.le_refl _) (I1.hok.fresh (Nat.le_refl _))
  · cases r1
    obtain ⟨its,rv,p,hz⟩:=I1.tuple hq
    refine wpAny_pyIter_tuple (show s1.heap.IsTuple a its.toArray from p) ?_
    refine ⟨s1.heap.objs.size,[s1.heap.objs.size],_,_,H1,rfl,I1.kept (t':=s1.toks) fun b o e=>Heap.get?_push_of_some _ e,turn_tuple a _,⟨_,Heap.get?_push_size _ rfl,rfl,rfl⟩,fun b hb=>?_,q⟩
    have e:b = s1.heap.objs.size:=by simpa using hb
    subst e
    exact I1.fpOk (Nat.le_refl _) (I1.hok.fresh (Nat.le_refl _))
  · obtain ⟨t,rfl⟩:=r1
    refine wpAny_pyIter_strU ?_
    refine ⟨s1.heap.objs.size,[s1.heap.objs.size],_,_,H1,rfl,I1.kept (t':=s1.toks) fun b o e=>Heap.get?_push_of_some _ e,turn_str s1.heap.objs.size z t,⟨_,Heap.get?_push_size _ rfl,rfl,rfl⟩,fun b hb=>?_,q⟩
    have e:b = s1.heap.objs.size:=by simpa using hb
    subst e
    exact I1.fpOk (Nat.le_refl _) (I1.hok.fresh (Nat.le_refl _))
 exact thn (hl pins s σ H _ I h) fun v s1 ⟨x,H1,I1,r1,q1⟩=>key I1 r1 q1
theorem PI.imp {tg l:Expr} {t t':TI} (h:PI X tg l t) (w:∀ σ H R,t' σ H R→t σ H R):PI X tg l t':=fun pins s σ H R I q=>h pins s σ H R I (w σ H R q)
theorem snd_sq {tg l:Expr} {e:E} (n:(!isPk e) = true) (hl:PE X l (tE X.K cx e)):PI X tg l (tI X.K cx (.sq e)):=by
 refine PI.imp (pi_any hl) fun σ H R h=>?_
 obtain ⟨G,F,δ,ds,δ',ok,ev,post⟩:=h
 simp only [evI,Option.bind_eq_bind,Option.bind_eq_some_iff] at ev
 obtain ⟨⟨d,δ1⟩,ea,ds',hd,e2⟩:=ev
 cases e2
 dsimp only at hd post
 refine ⟨G,F,δ,d,δ1,ok,ea,fun v H1 F1 st1 sm1 ok1 r1=>?_⟩
 have r:=rel_of n r1
 unfold items at hd
 split at hd
 · cases hd
   unfold Rel at r
   obtain ⟨a,xs,e1,h1,h3⟩:=r
   exact .inl ⟨a,e1,⟨xs,h1.sq⟩,post _ _ _ st1 sm1 ok1 (fun _=>wk_list ok1.fd h1 h3)⟩
 · cases hd
   unfold Rel at r
   obtain ⟨a,xs,e1,h1,h3⟩:=r
   exact .inr (.inl ⟨a,e1,⟨xs,h1⟩,post _ _ _ st1 sm1 ok1 (fun _=>wk_tup ok1.fd h1 h3)⟩)
 · split at hd
   · cases hd
     unfold Rel at r
     exact .inr (.inr ⟨_,r,post _ _ _ st1 sm1 ok1 fun _=>wk_str⟩)
   · cases hd
 · cases hd
theorem snd_rng {tg y:Expr} {e:E} {p pos:Pos} (n:(!isPk e) = true) (hg:Gl X "range") (hm:X.mg "range" = none) (hy:PE X y (tE X.K cx e)) (hs:starEach [y] X.env = [(false,eval y X.env)]):PI X tg (.Call (.Name "range" p) [y] [] pos) (tI X.K cx (.rng e)):=by
 refine PI.imp (pi_range1 hg hm (pa_cons hy pa_nil hs) hs) fun σ H R h=>?_
 obtain ⟨G,F,δ,ds,δ',ok,ev,post⟩:=h
 simp only [evI,Option.bind_eq_bind,Option.bind_eq_some_iff] at ev
 obtain ⟨⟨d,δ1⟩,ea,ev⟩:=ev
 cases d with
 | int j =>
   dsimp only at ev
   split at ev
   · rename_i hj
     cases ev
     refine ⟨G,F,δ,.int j,_,ok,ea,fun v H1 F1 st1 sm1 ok1 r1=>?_⟩
     have r:=rel_of n r1
     unfold Rel at r
     subst r
     exact ⟨j,rfl,hj.1,hj.2,post _ _ _ st1 sm1 ok1 fun _=>wk_rng⟩
   · cases ev
 | _=>cases ev
end
end PP
end
section
namespace PP
open PySem L2 PyProof.Rows
variable [Tbs]
def spFF (K:PySem.W.Frag) (f:List D→Option D):Sp:=fun vs H Q _=>∃ F ds ws k cs a d,FD F H∧TF F∧Tabs H∧vs = ws++[.ref a]∧RelL K H F ds ws∧FnV H k cs a∧f (ds++[.fn k cs]) = some d∧∀ v H',Sim H H'→Tabs H'→Rel K H' F d v→Q v H'
def spO (K:PySem.W.Frag) (f:List D→Option D):Sp:=fun vs H Q _=>∃ F ds zs,FD F H∧TF F∧Tabs H∧RelL K H F ds vs∧f ds = some (.lst zs)∧∀ a xs H',Sim H H'→Tabs H'→H a = none→H' a = some (.lst xs)→RelL K H' (fun b=>F b∨b = a) zs xs→Q (.ref a) H'
def LmOk (P:Program) (w:World) (K:PySem.W.Frag) (mg:Str→Option Value) (base:Heap) (n k:Nat) (f:List D→Option D):Prop :=
 ∀ (A:Around) (outer:List Env) (s:Shared) (H:Hp) (a:Addr) (us:List Value) (vs:List V) (cs:List D) (Q:VK),Room n A→Env0 P w K mg base A outer s H→Vals vs us→FnV H k cs a →
  (∃ F ds d,FD F H∧TF F∧Tabs H∧RelL K H F ds vs∧lfL ds = true∧f (ds++cs) = some d∧lf d = true∧∀ v H',Sim H H'→Tabs H'→Rel K H' F d v→Q v H') →
  codeAny (model P w) A (.call (.ref a) ⟨us,[]⟩) (CR CX0 outer P w H s Q E0) s
structure Cok (X:Cx) (c:Ck) (cx:Cl) (k:Nat):Prop where
 hN:X.N = c.N
 nd:c.N.Nodup
 vis:∀ x,Vis c.sc x→Vis X.env.scope x
 gl:∀ x,c.sc.names.lookup x = some .globalImplicit→Gl X x
 st:∀ x,L2.Loc c.sc x→L2.Loc X.env.scope x∧(X.fn x = true∨X.env.scope.names.lookup x = some .local)
 kc:∀ x,(c.sc.names.lookup x = some .cell∨c.sc.names.lookup x = some .free)→X.env.kindOf x = some .cell∨X.env.kindOf x = some .free
 calm:X.calm = true
 xe:X.xe = fun _ _=>False
 room:Room k X.A
 fns:∀ (f:Nat) (x:Str) (ps:List Str),c.fns[f]? = some (x,ps)→∃ a fd,X.mg x = some (.ref a)∧PySem.W.keepIn X.K (.ref a) = true∧Binds X.K fd ps []∧FnOk X.prog X.w X.K X.mg X.base CX0 k a fd ps (spF X.K (cx.call f))
 fnF:∀ (f:Nat) (x:Str) (ps:List Str),c.fns[f]? = some (x,ps)→cx.hf f = true→∃ a fd,X.mg x = some (.ref a)∧PySem.W.keepIn X.K (.ref a) = true∧Binds X.K fd ps []∧FnOk X.prog X.w X.K X.mg X.base CX0 k a fd ps (spFF X.K (cx.call f))
 fnO:∀ (f:Nat) (x:Str) (ps:List Str),c.fns[f]? = some (x,ps)→∃ a fd,X.mg x = some (.ref a)∧PySem.W.keepIn X.K (.ref a) = true∧Binds X.K fd ps []∧FnOk X.prog X.w X.K X.mg X.base CX0 k a fd ps (spO X.K (cx.call (f+own0)))
 lam:∀ (n:Nat) (cs:List D) (H:Hp) (a:Addr),FnV H n cs a→LmOk X.prog X.w X.K X.mg X.base k n (cx.call n)
 blt:∀ x,x∈bltNames→X.mg x = none
 glob:∀ (g:Nat) (x:Str) (d:D),c.gn[g]? = some x→cx.gl[g]? = some d→∃ u v,X.mg x = some u∧RelV v u∧∀ H F,Rel X.K H F d v
 gsome:∀ (g:Nat) (x:Str),c.gn[g]? = some x→∃ d,cx.gl[g]? = some d
theorem visB_vis {sc:Scope} {x:Str} (h:visB sc x = true):Vis sc x:=by
 unfold visB at h
 split at h
 · exact .inl ‹_›
 · exact .inr (.inl ‹_›)
 · exact .inr (.inr ‹_›)
 · cases h
theorem locB_loc {sc:Scope} {x:Str} (h:locB sc x = true):L2.Loc sc x:=by
 unfold locB at h
 split at h
 · exact .inl ‹_›
 · exact .inr ‹_›
 · cases h
theorem glB_gl {sc:Scope} {x:Str} (h:glB sc x = true):sc.names.lookup x = some .globalImplicit:=by
 unfold glB at h
 split at h
 · assumption
 · cases h
theorem nmOk_of {x:Str} (h:nmOk x = true):(x == ("__debug__":Str)) = false∧(x == ("__classdict__":Str)) = false∧x≠("__name__":Str):=by
 unfold nmOk at h
 rw [Bool.and_eq_true,Bool.and_eq_true] at h
 refine ⟨by simpa using h.1.1,by simpa using h.1.2,?_⟩
 have:=h.2
 intro z
 subst z
 revert this
 decide +kernel
section
variable {X:Cx} {c:Ck} {cx:Cl} {k:Nat}
theorem Cok.name (C:Cok X c cx k) {i:Nat} {x:Str} (h:nameIs c i x = true):X.N[i]? = some x∧Vis X.env.scope x∧(x == ("__debug__":Str)) = false∧(x == ("__classdict__":Str)) = false:=by
 unfold nameIs at h
 rw [Bool.and_eq_true,Bool.and_eq_true] at h
 obtain ⟨⟨h1,h2⟩,h3⟩:=h
 obtain ⟨n1,n2,n3⟩:=nmOk_of h3
 exact ⟨by rw [C.hN];exact of_decide_eq_true h1,C.vis x (visB_vis h2),n1,n2⟩
theorem Cok.to (C:Cok X c cx k) {i:Nat} {x:Str} (h:nameTo c i x = true):X.N[i]? = some x∧L2.Loc X.env.scope x∧(X.fn x = true∨X.env.scope.names.lookup x = some .local):=by
 unfold nameTo at h
 rw [Bool.and_eq_true,Bool.and_eq_true] at h
 obtain ⟨⟨h1,h2⟩,h3⟩:=h
 obtain ⟨s1,s2⟩:=C.st x (locB_loc h2)
 exact ⟨by rw [C.hN];exact of_decide_eq_true h1,s1,s2⟩
theorem Cok.global (C:Cok X c cx k) {x:Str} (h:globIs c x = true):Gl X x∧(x == ("__debug__":Str)) = false∧x≠("__name__":Str):=by
 unfold globIs at h
 rw [Bool.and_eq_true] at h
 obtain ⟨n1,n2,n3⟩:=nmOk_of h.2
 exact ⟨C.gl x (glB_gl h.1),n1,n3⟩
theorem Cok.units (C:Cok X c cx k):X.A.units+200 < cLine:=by have:=C.room.un;omega
theorem Cok.nd' (C:Cok X c cx k):X.N.Nodup:=by rw [C.hN];exact C.nd
def gNames:List Nat→TGs
 | []=>gNil
 | i::is=>gCons (gName i) (gNames is)
def gSeq (K:PySem.W.Frag) (n:Nat) (t:TGs):TG:=fun v σ H Q=>∃ a xs,v = .ref a∧(SqT K H a xs∨SqL K H a xs)∧xs.length = n∧t xs σ H Q
theorem assign_Tuple_list {prog:Program} {w:World} {A:Around} {E:Value→Shared→Prop} {s:Shared} {env:Env} {elts:List Expr} {x1} {pos:Pos} {t:Addr} {items:Array Value} {Q:Unit→Shared→Prop} (hh:A.handled = none) (ht:s.heap.IsList t items)
 (hn:(assignEach elts env).length = items.size) (hstar:(assignEach elts env).findIdx? (·.1) = none)
 (h:∀ h',Heap.ExtBut s.heap.objs.size s.heap h'→wpAny (model prog w) A (assignInOrder ((assignEach elts env).map (·.2)) items.toList) Q E { s with heap:=h' }) :
 wpAny (model prog w) A (assign (.Tuple elts x1 pos) env (.ref t)) Q E s:=by
 rw [assign_Tuple]
 refine wpAny_bind (wpAny_standAt ?_)
 unfold unpack
 rw [hn,hstar]
 exact wpAny_bind (wpAny_holding (PySem.W.kun_itemsOf hh ht h))
theorem pg_seq {X:Cx} {es:List Expr} {k:Nat} {t:TGs} {n:Nat} {pos:Pos} (hc:X.calm = true) (h:PGs X es t)
 (hn:(assignEach es X.env).length = n:=by rfl) (hst:(assignEach es X.env).findIdx? (·.1) = none:=by rfl):PG X (.Tuple es k pos) (gSeq X.K n t):=by
 intro pins s σ H v u Q I r hw
 obtain ⟨a,xs,e1,hq,hl,hw⟩:=hw
 rcases hq with hq | hq
 · exact pg_tup hc h hn hst pins s σ H v u Q I r ⟨a,xs,e1,hq,hl,hw⟩
 · subst e1
   cases r
   obtain ⟨its,rv,pl,hz⟩:=I.list hq
   refine assign_Tuple_list (I.ok.hd hc) pl.isList (by simp [hn,← hl,rv.length]) hst fun h' hx=>?_
   have I1:Inv X pins σ H { s with heap:=h' }:=I.kept (t':=s.toks) fun b o e=>hx b o (Nat.ne_of_lt (Heap.lt_size e)) e
   exact h pins _ σ H xs _ Q I1 (by simpa using rv) hw
def gTg (K:PySem.W.Frag):Tg→TG
 | .nm i=>gName i
 | .tp is=>gSeq K is.length (gNames is)
 | .pr i is=>gSeq K 2 (gCons (gName i) (gCons (gSeq K is.length (gNames is)) gNil))
theorem pgs_names (C:Cok X c cx k):∀ (is:List Nat) (es:List Expr),ckNs c is es = true→PGs X es (gNames is)∧(assignEach es X.env).length = is.length∧(assignEach es X.env).findIdx? (·.1) = none
 | [],es,h=>by
   obtain ⟨rfl,_⟩:=on0_of h
   exact ⟨pgs_nil,rfl,rfl⟩
 | i::is,es,h=>by
   obtain ⟨e,r,rfl,hh⟩:=onS_of h
   rw [Bool.and_eq_true] at hh
   obtain ⟨x,p,rfl,h1⟩:=onName_of hh.1
   obtain ⟨q1,q2,q3⟩:=pgs_names C is r hh.2
   obtain ⟨n1,n2,n3⟩:=C.to h1
   refine ⟨pgs_cons (pg_name C.nd' n1 n2 n3) q1 rfl,?_,?_⟩
   · show (assignEach r X.env).length+1 = _
     rw [q2];rfl
   · show List.findIdx? _ ((false,_)::assignEach r X.env) = none
     rw [List.findIdx?_cons,q3]
     rfl
theorem snd_tg (C:Cok X c cx k) {tg:Tg} {t:Expr} (h:ckTg c tg t = true):PG X t (gTg X.K tg):=by
 cases tg with
 | nm i =>
   obtain ⟨_,_,rfl,h1⟩:=onName_of h
   obtain ⟨n1,n2,n3⟩:=C.to h1
   exact pg_name C.nd' n1 n2 n3
 | tp is =>
   obtain ⟨_,_,_,rfl,h1⟩:=onTup_of h
   obtain ⟨q1,q2,q3⟩:=pgs_names C _ _ h1
   exact pg_seq C.calm q1 q2 q3
 | pr i is =>
   obtain ⟨_,_,_,rfl,h1⟩:=onTup_of h
   obtain ⟨_,_,rfl,h2⟩:=on2_of h1
   rw [Bool.and_eq_true] at h2
   obtain ⟨_,_,rfl,h3⟩:=onName_of h2.1
   obtain ⟨_,_,_,rfl,h4⟩:=onTup_of h2.2
   obtain ⟨n1,n2,n3⟩:=C.to h3
   obtain ⟨q1,q2,q3⟩:=pgs_names C _ _ h4
   exact pg_seq C.calm (pgs_cons (pg_name C.nd' n1 n2 n3) (pgs_cons (pg_seq C.calm q1 q2 q3) pgs_nil rfl) rfl) rfl rfl
theorem take_set {α:Type} (l:List α) (i n:Nat) (x:α) (h:n≤i):(l.set i x).take n = l.take n:=by
 apply List.ext_getElem?
 intro j
 by_cases hj:j < n
 · rw [List.getElem?_take_of_lt hj,List.getElem?_take_of_lt hj,List.getElem?_set_ne (by omega)]
 · rw [List.getElem?_eq_none (by rw [List.length_take];omega),List.getElem?_eq_none (by rw [List.length_take];omega)]
theorem tg_names {K:PySem.W.Frag} {G:Gh} {H:Hp} {F:Addr→Prop} {Q:L2.St→Hp→Prop}:∀ (is:List Nat) (ds:List D) (xs:List V) (σ:L2.St) (δ:Loc),Ok K G F σ H δ→RelL K H F ds xs→is.length = ds.length→is.all (· < δ.length) = true →
 (∀ σ',Ok K G F σ' H ((is.zip ds).foldl (fun δ p=>δ.set p.1 (.val p.2)) δ)→(∀ n,(is.all fun i=>decide (n≤i)) = true→σ'.take n = σ.take n)→Q σ' H)→gNames is xs σ H Q
 | [],ds,xs,σ,δ,ok,r,hl,_,q=>by
   have:ds = []:=List.length_eq_zero_iff.mp hl.symm
   subst this
   unfold RelL at r
   exact ⟨r,q σ ok fun _ _=>rfl⟩
 | i::is,[],xs,σ,δ,ok,r,hl,_,q=>by simp at hl
 | i::is,d::ds,xs,σ,δ,ok,r,hl,ha,q=>by
   unfold RelL at r
   obtain ⟨y,ys,rfl,r1,r2⟩:=r
   rw [List.all_cons,Bool.and_eq_true] at ha
   refine ⟨y,ys,rfl,?_⟩
   refine tg_names is ds ys (σ.set i (some y)) (δ.set i (.val d)) (ok.set (of_decide_eq_true ha.1) r1) r2 (by simpa using hl) ?_ fun σ' o t=>q σ' o fun n hn=>?_
   · rw [List.length_set];exact ha.2
   · rw [List.all_cons,Bool.and_eq_true] at hn
     rw [t n hn.2,take_set _ _ _ _ (of_decide_eq_true hn.1)]
theorem tg_read {K:PySem.W.Frag} {G:Gh} {H:Hp} {F:Addr→Prop} {σ:L2.St} {δ δ':Loc} {tg:Tg} {d:D} {v:V} {Q:L2.St→Hp→Prop} (ok:Ok K G F σ H δ) (r:Rel K H F d v) (e:setTg δ tg d = some δ') (q:∀ σ',Ok K G F σ' H δ'→(∀ n,tgGe n tg = true→σ'.take n = σ.take n)→Q σ' H):gTg K tg v σ H Q:=by
 unfold setTg at e
 split at e
 · split at e
   · cases e
     exact q _ (ok.set ‹_› r) fun n hn=>take_set _ _ _ _ (of_decide_eq_true hn)
   · cases e
 · split at e
   · rename_i hh
     cases e
     unfold Rel at r
     obtain ⟨a,xs,e1,h1,h2⟩:=r
     exact ⟨a,xs,e1,.inl h1,by rw [h2.length];exact hh.1.symm,tg_names _ _ _ _ _ ok h2 hh.1 hh.2 q⟩
   · cases e
 · split at e
   · rename_i hh
     cases e
     unfold Rel at r
     obtain ⟨a,xs,e1,h1,h2⟩:=r
     exact ⟨a,xs,e1,.inr h1.b.sq,by rw [h2.length];exact hh.1.symm,tg_names _ _ _ _ _ ok h2 hh.1 hh.2 q⟩
   · cases e
 · split at e
   · rename_i hh
     cases e
     unfold Rel at r
     obtain ⟨a,xs,e1,h1,h2⟩:=r
     unfold RelL at h2
     obtain ⟨y,ys,rfl,r1,r2⟩:=h2
     unfold RelL at r2
     obtain ⟨z,zs,rfl,r3,r4⟩:=r2
     unfold RelL at r4
     subst r4
     unfold Rel at r3
     obtain ⟨b,ws,e2,h3,h4⟩:=r3
     refine ⟨a,[y,z],e1,.inl h1,rfl,y,[z],rfl,z,[],rfl,b,ws,e2,.inl h3,by rw [h4.length];exact hh.2.1.symm,?_⟩
     refine tg_names _ _ _ _ _ (ok.set hh.1 r1) h4 hh.2.1 (by rw [List.length_set];exact hh.2.2) fun σ' o t=>⟨rfl,q σ' o fun n hn=>?_⟩
     have hn':=(Bool.and_eq_true _ _).mp (show (decide (n≤_) && _) = true from hn)
     rw [t n hn'.2,take_set _ _ _ _ (of_decide_eq_true hn'.1)]
   · cases e
 · cases e
theorem Ok.ext {K:PySem.W.Frag} {G:Gh} {H:Hp} {F:Addr→Prop} {σ:L2.St} {δ:Loc} (h:Ok K G F σ H δ) (tl:L2.St):Ok K G F (σ++tl) H (δ++List.replicate tl.length .no):=by
 have low:∀ (j:Nat) (s:Sl),(δ++List.replicate tl.length .no)[j]? = some s→s = .no∨(δ[j]? = some s∧(σ++tl)[j]? = σ[j]?):=fun j s e=>by
  by_cases hj:j < δ.length
  · rw [List.getElem?_append_left hj] at e
    exact .inr ⟨e,List.getElem?_append_left (by rw [← h.len];exact hj)⟩
  · rw [List.getElem?_append_right (by omega),List.getElem?_replicate] at e
    split at e
    · cases e;exact .inl rfl
    · cases e
 refine ⟨h.same,h.fd,h.rf,h.rl,h.tf,h.tabs,by rw [List.length_append,List.length_append,List.length_replicate,h.len],fun j s e=>?_,fun i j ds es a e1 e2 p1 p2=>?_⟩
 · rcases low j s e with rfl | ⟨e1,e2⟩
   · trivial
   · rw [e2];exact h.sl j s e1
 · rcases low i _ e1 with z | ⟨a1,a2⟩
   · cases z
   · rcases low j _ e2 with z | ⟨b1,b2⟩
     · cases z
     · rw [a2] at p1;rw [b2] at p2
       exact h.apart i j ds es a a1 b1 p1 p2
theorem Ok.cut {K:PySem.W.Frag} {G:Gh} {H:Hp} {F:Addr→Prop} {σ:L2.St} {δ:Loc} (h:Ok K G F σ H δ) (n:Nat):Ok K G F (σ.take n) H (δ.take n):=by
 have low:∀ (j:Nat) (s:Sl),(δ.take n)[j]? = some s→δ[j]? = some s∧(σ.take n)[j]? = σ[j]? := fun j s e=>by
  by_cases hj:j < n
  · rw [List.getElem?_take_of_lt hj] at e
    exact ⟨e,List.getElem?_take_of_lt hj⟩
  · rw [List.getElem?_eq_none (by rw [List.length_take];omega)] at e;cases e
 refine ⟨h.same,h.fd,h.rf,h.rl,h.tf,h.tabs,by rw [List.length_take,List.length_take,h.len],fun j s e=>?_,fun i j ds es a e1 e2 p1 p2=>?_⟩
 · obtain ⟨e1,e2⟩:=low j s e
   rw [e2];exact h.sl j s e1
 · obtain ⟨a1,a2⟩:=low i _ e1
   obtain ⟨b1,b2⟩:=low j _ e2
   rw [a2] at p1;rw [b2] at p2
   exact h.apart i j ds es a a1 b1 p1 p2
def Gh.and (G:Gh) (D:Addr):Gh:=⟨G.h,fun b=>G.R b∨b = D⟩
theorem Ok.free {K:PySem.W.Frag} {G:Gh} {H:Hp} {F:Addr→Prop} {σ:L2.St} {δ:Loc} {p:Addr} (h:Ok K G F σ H δ) (hp:H p = none):G.free p:=by
 refine ⟨?_,fun z=>?_⟩
 · cases e:G.h p with
   | none=>rfl
   | some o =>
     by_cases t:NT o
     · rw [h.same.nt p o t e] at hp
       cases hp
     · cases o<;>first | (exact absurd trivial t) | skip
       obtain ⟨qs,z⟩:=h.same.tb p _ e
       rw [z] at hp
       cases hp
 · rcases h.rl p z with ⟨xs,e⟩ | ⟨xs,e⟩<;>(rw [hp] at e;cases e)
theorem Ok.enter {K:PySem.W.Frag} {G:Gh} {H:Hp} {F:Addr→Prop} {σ:L2.St} {δ:Loc} {p:Addr} (h:Ok K G F σ H δ) (hp:H p = none) (xs:List V):Ok K (G.and p) (fun b=>F b∨b = p) σ (upd H p (.lst xs)) δ∧Step G F H (fun b=>F b∨b = p) (upd H p (.lst xs)):=by
 have nF:¬ F p:=not_F h.fd hp
 have sm:=same_new hp (.lst xs)
 have st:∀ G':Gh,Step G' F H (fun b=>F b∨b = p) (upd H p (.lst xs)):=fun G'=>⟨fun b o _ e _=>sm b o e,fun b z=>by rcases z with z | z;exact .inl z;exact .inr (by rw [z];exact hp),fun b o _ f e=>⟨.inl f,sm b o e⟩,fun b ps e=>⟨ps,sm b _ e⟩⟩
 refine ⟨⟨h.same.trans (.of sm),fun b z=>?_,fun b z=>?_,fun b z=>?_,fun t ht=>.inl (h.tf t ht),h.tabs.keep fun b o _ e=>sm b o e,h.len,fun j s e=>?_,h.apart⟩,st G⟩
 · rcases z with z | z
   · exact h.fd.same sm b z
   · rw [z];exact .inl ⟨xs,upd_same⟩
 · rcases z with z | z
   · exact .inl (h.rf b z)
   · exact .inr z
 · rcases z with z | z
   · exact (h.rl b z).imp (fun ⟨ys,e⟩=>⟨ys,sm b _ e⟩) fun ⟨ys,e⟩=>⟨ys,sm b _ e⟩
   · rw [z];exact .inl ⟨xs,upd_same⟩
 · have q:=h.sl j s e
   cases s with
   | no=>trivial
   | fnc n cs =>
     obtain ⟨v,e,r⟩:=q
     exact ⟨v,e,r.keep (fz_keep h.fd (st G).keep)⟩
   | val d =>
     obtain ⟨v,e,r⟩:=q
     exact ⟨v,e,Rel.step h.fd (st G) d v r⟩
   | own ds =>
     obtain ⟨a,ys,e,h1,h2,h3,h4⟩:=q
     refine ⟨a,ys,e,.inl h1,⟨h2.1,fun z=>?_⟩,sm _ _ h3,RelL.step h.fd (st G) ds ys h4⟩
     rcases z with z | z
     · exact h2.2 z
     · rw [z] at h1;exact nF h1
theorem Ok.poke {K:PySem.W.Frag} {G:Gh} {H:Hp} {F:Addr→Prop} {σ:L2.St} {δ:Loc} {p:Addr} {zs:List V} (h:Ok K (G.and p) F σ H δ) (hg:G.free p) (hP:H p = some (.lst zs)) (xs:List V):Ok K (G.and p) F σ (upd H p (.lst xs)) δ:=by
 have hF:F p:=h.rf p (.inr rfl)
 have st:Step g0 F H F (upd H p (.lst xs)):=⟨fun b o _ e n=>by rw [upd_ne (fun z:b = p=>n (by rw [z];exact hF))];exact e,fun b z=>.inl z,fun _ _ r _ _=>r.elim,fun b ps e=>⟨ps,by rw [upd_ne (fun w:b = p=>by rw [w,hP] at e;cases e)];exact e⟩⟩
 refine ⟨⟨fun b o t e=>?_,fun b ps e=>?_⟩,fun b z=>?_,h.rf,fun b z=>?_,h.tf,h.tabs.keep fun b o n e=>?_,h.len,fun j s e=>?_,h.apart⟩
 · rw [upd_ne (fun z:b = p=>by have e':G.h b = some o:=e;rw [z,hg.1] at e';cases e')]
   exact h.same.nt b o t e
 · rw [upd_ne (fun z:b = p=>by have e':G.h b = some _:=e;rw [z,hg.1] at e';cases e')]
   exact h.same.tb b ps e
 · by_cases hb:b = p
   · rw [hb];exact .inl ⟨xs,upd_same⟩
   · rw [upd_ne hb];exact h.fd b z
 · by_cases hb:b = p
   · rw [hb];exact .inl ⟨xs,upd_same⟩
   · rw [upd_ne hb];exact h.rl b z
 · rw [upd_ne (fun w:b = p=>by rw [w,hP] at e;cases e;exact n _ rfl)]
   exact e
 · have q:=h.sl j s e
   cases s with
   | no=>trivial
   | fnc n cs =>
     obtain ⟨v,e,r⟩:=q
     exact ⟨v,e,r.keep (fz_keep h.fd st.keep)⟩
   | val d =>
     obtain ⟨v,e,r⟩:=q
     exact ⟨v,e,Rel.step h.fd st d v r⟩
   | own ds =>
     obtain ⟨a,ys,e,h1,h2,h3,h4⟩:=q
     refine ⟨a,ys,e,h1,h2,?_,RelL.step h.fd st ds ys h4⟩
     rw [upd_ne (fun z:a = p=>h2.2 (.inr z))]
     exact h3
theorem Ok.leave {K:PySem.W.Frag} {G:Gh} {H:Hp} {F:Addr→Prop} {σ:L2.St} {δ:Loc} {p:Addr} (h:Ok K (G.and p) F σ H δ) (hg:G.free p):Ok K G (fun b=>F b∧b≠p) σ H δ:=by
 have hs:∀ b,(F b∧b≠p)→F b:=fun b z=>z.1
 have tf':TF fun b=>F b∧b≠p:=fun t ht=>⟨h.tf t ht,fun w=>by
  obtain ⟨ps,e,_⟩:=h.tabs t ht
  rcases h.rl p (.inr rfl) with ⟨zs,hP⟩ | ⟨zs,hP⟩<;>(rw [w,hP] at e;cases e)⟩
 refine ⟨h.same,fun b z=>h.fd b z.1,fun b z=>⟨h.rf b (.inl z),fun w=>hg.2 (by rw [← w];exact z)⟩,fun b z=>h.rl b (.inl z),tf',h.tabs,h.len,fun j s e=>?_,h.apart⟩
 have q:=h.sl j s e
 cases s with
 | no=>trivial
 | fnc n cs=>exact q
 | val d =>
   obtain ⟨v,e,r⟩:=q
   exact ⟨v,e,Rel.less h.fd hs r⟩
 | own ds =>
   obtain ⟨a,ys,e,h1,h2,h3,h4⟩:=q
   exact ⟨a,ys,e,⟨h1,fun z=>h2.2 (.inr z)⟩,⟨h2.1,fun z=>h2.2 (.inl z)⟩,h3,RelL.less h.fd hs h4⟩
theorem Ok.keep {K:PySem.W.Frag} {G:Gh} {H:Hp} {F:Addr→Prop} {σ:L2.St} {δ:Loc} {p:Addr} (h:Ok K (G.and p) F σ H δ):Ok K G F σ H δ:=by
 refine ⟨h.same,h.fd,fun b z=>h.rf b (.inl z),fun b z=>h.rl b (.inl z),h.tf,h.tabs,h.len,fun j s e=>?_,h.apart⟩
 have q:=h.sl j s e
 cases s with
 | no=>trivial
 | fnc n cs=>exact q
 | val d=>exact q
 | own ds =>
   obtain ⟨a,ys,e,h1,h2,h3,h4⟩:=q
   exact ⟨a,ys,e,h1,⟨h2.1,fun z=>h2.2 (.inl z)⟩,h3,h4⟩
end
end PP
end
section
namespace PP
open PySem L2 PyProof.Rows
variable [Tbs]
section
variable {K:PySem.W.Frag} {cx:Cl}
def compF (cx:Cl) (k:Nat) (tg:Tg) (ifs:Eo) (elt:E):D→Loc→Option (Option D × Loc):=fun x δ0=>do
 let δ2 ← setTg (δ0++List.replicate k .no) tg x
 let (b,δ3) ← evG cx ifs δ2
 if b then do
  let (y,δ4) ← evE cx elt δ3
  return (some y,δ4.take δ0.length)
 else return (none,δ3.take δ0.length)
theorem comp_ev {k:Nat} {tg:Tg} {src:It} {ifs:Eo} {elt:E} {δ δ':Loc} {d:D} (ev:evE cx (.comp k tg src ifs elt) δ = some (d,δ')) :
 ∃ ds δ1 ys,evI cx src δ = some (ds,δ1)∧compL (compF cx k tg ifs elt) ds δ1 = some (ys,δ')∧ys.length≤sizeLine∧d = .lst ys:=by
 simp only [evE,Option.bind_eq_bind,Option.bind_eq_some_iff] at ev
 obtain ⟨⟨ds,δ1⟩,ea,⟨ys,δ2⟩,eb,ev⟩:=ev
 split at ev
 · cases ev
   exact ⟨ds,δ1,ys,ea,eb,‹_›,rfl⟩
 · cases ev
theorem compF_inv {k:Nat} {tg:Tg} {ifs:Eo} {elt:E} {x:D} {δ0 δ1:Loc} {o:Option D} (h:compF cx k tg ifs elt x δ0 = some (o,δ1)):∃ δ2 b δ3,setTg (δ0++List.replicate k .no) tg x = some δ2∧evG cx ifs δ2 = some (b,δ3) ∧
 ((b = true∧∃ y δ4,evE cx elt δ3 = some (y,δ4)∧o = some y∧δ1 = δ4.take δ0.length)∨(b = false∧o = none∧δ1 = δ3.take δ0.length)):=by
 unfold compF at h
 simp only [Option.bind_eq_bind,Option.bind_eq_some_iff] at h
 obtain ⟨δ2,e1,⟨b,δ3⟩,e2,h⟩:=h
 refine ⟨δ2,b,δ3,e1,e2,?_⟩
 cases b with
 | true =>
   simp only [if_true,Option.bind_eq_some_iff] at h
   obtain ⟨⟨y,δ4⟩,e3,h⟩:=h
   cases h
   exact .inl ⟨rfl,y,δ4,e3,rfl,rfl⟩
 | false =>
   simp only [Bool.false_eq_true,if_false] at h
   cases h
   exact .inr ⟨rfl,rfl,rfl⟩
theorem compL_cons {f:D→Loc→Option (Option D × Loc)} {x:D} {xs ys:List D} {δ δ':Loc} (h:compL f (x::xs) δ = some (ys,δ')):∃ o δ1 zs,f x δ = some (o,δ1)∧compL f xs δ1 = some (zs,δ')∧ys = (match o with | some y=>y::zs | none=>zs):=by
 unfold compL at h
 simp only [Option.bind_eq_bind,Option.bind_eq_some_iff] at h
 obtain ⟨⟨o,δ1⟩,e1,⟨zs,δ2⟩,e2,h⟩:=h
 cases h
 exact ⟨o,δ1,zs,e1,e2,rfl⟩
theorem Step.sub {G G':Gh} {F F':Addr→Prop} {H H':Hp} (h:Step G' F H F' H') (hs:∀ b,G.R b→G'.R b):Step G F H F' H':=⟨h.keep,h.grow,fun b o r=>h.res b o (hs b r),h.tb⟩
theorem fold_len:∀ (ps:List (Nat × D)) (δ:Loc),(ps.foldl (fun δ p=>δ.set p.1 (Sl.val p.2)) δ).length = δ.length:=by
 intro ps
 induction ps with
 | nil=>intro δ;rfl
 | cons a r ih=>intro δ;rw [List.foldl_cons,ih,List.length_set]
theorem setTg_len {δ δ':Loc} {tg:Tg} {d:D} (es:setTg δ tg d = some δ'):δ'.length = δ.length:=by
 unfold setTg at es
 split at es
 · split at es
   · cases es;rw [List.length_set]
   · cases es
 · split at es
   · cases es;rw [fold_len]
   · cases es
 · split at es
   · cases es;rw [fold_len]
   · cases es
 · split at es
   · cases es;rw [fold_len,List.length_set]
   · cases es
 · cases es
theorem comp_turns {G:Gh} {F1:Addr→Prop} {H1:Hp} {σ:L2.St} {J:L2.It} {ds ys:List D} {δ1 δ2:Loc} {k:Nat} {tg:Tg} {ifs:Eo} {elt:E} {p:Addr} {Q:L2.St→Hp→Prop} (n:(!isPk elt) = true) (hge:tgGe σ.length tg = true)
 (ok1:Ok K G F1 σ H1 δ1) (wk:Wk K G F1 H1 J ds) (hp:H1 p = none) (ev:compL (compF cx k tg ifs elt) ds δ1 = some (ys,δ2)) (hz:ys.length≤sizeLine)
 (q:∀ σ' H2 F2 xs,Ok K (G.and p) F2 σ H2 δ2→H2 p = some (.lst xs)→RelL K H2 F2 ys xs→Step G F1 H1 F2 H2→((npO ifs && np elt) = true→Sim H1 H2)→Q σ' H2) :
 tLp J (gTg K tg) (tG K cx ifs) (tEmit p (tE K cx elt)) (σ++List.replicate k none) (upd H1 p (.lst [])) Q:=by
 have hg:=ok1.free hp
 obtain ⟨ok2,st2⟩:=ok1.enter hp []
 have hFs:∀ b,G.R b→(G.and p).R b:=fun b z=>.inl z
 refine ⟨fun i m σc Hc=>∃ F' δi zs xs yi,m = ds.length - i∧i≤ds.length∧(∃ tl:L2.St,σc = σ++tl∧tl.length = k)∧Ok K (G.and p) F' σ Hc δi∧compL (compF cx k tg ifs elt) (ds.drop i) δi = some (zs,δ2)∧yi++zs = ys∧Hc p = some (.lst xs)∧RelL K Hc F' yi xs∧Step G F1 H1 F' Hc ∧
  ((npO ifs && np elt) = true→Sim H1 Hc),⟨ds.length,fun b=>F1 b∨b = p,δ1,ys,[],[],by simp,Nat.zero_le _,⟨_,rfl,by simp⟩,ok2,ev,rfl,upd_same,RelL.nil,st2,fun _=>.of (same_new hp _)⟩,?_⟩
 rintro i m σc Hc ⟨F',δi,zs,xs,yi,rfl,hi,⟨tl,rfl,htl⟩,ok,el,ey,eD,rl,st,sm⟩
 have hF:F' p:=ok.rf p (.inr rfl)
 by_cases hlt:i < ds.length
 · obtain ⟨d,hd⟩:∃ d,ds[i]? = some d:=⟨ds[i],by simp [hlt]⟩
   obtain ⟨go,yl⟩:=(wk F' Hc st ok.fd i).1 d hd
   refine .inr ⟨go,fun x H3 hy=>?_⟩
   obtain ⟨e3,rx⟩:=yl x H3 hy
   subst e3
   have edr:ds.drop i = d::ds.drop (i+1):=by
    rw [List.drop_eq_getElem_cons hlt]
    congr 1
    rw [List.getElem?_eq_getElem hlt] at hd
    exact Option.some.inj hd
   rw [edr] at el
   obtain ⟨o,δ5,zs',ef,el',ez⟩:=compL_cons el
   obtain ⟨δ6,b,δ7,es,eg,alt⟩:=compF_inv ef
   have okx:Ok K (G.and p) F' (σ++tl) H3 (δi++List.replicate k .no):=by rw [← htl];exact ok.ext tl
   refine tg_read okx rx es fun σ2 ok6 htake=>?_
   have t2:σ2.take σ.length = σ:=by rw [htake _ hge,List.take_left'];rfl
   have l2:σ2.length = σ.length+k:=by
    have a1:=okx.len
    have a2:=ok6.len
    have e1:=setTg_len es
    have e2:(σ++tl).length = σ.length+k:=by rw [List.length_append,htl]
    omega
   have dl:δi.length = σ.length:=ok.len
   have tail:∃ tl':L2.St,σ2 = σ++tl'∧tl'.length = k:=by
    refine ⟨σ2.drop σ.length,?_,by rw [List.length_drop];omega⟩
    conv=>lhs;rw [← List.take_append_drop σ.length σ2,t2]
   refine ⟨G.and p,F',δ6,b,δ7,ok6,eg,fun H7 F7 st7 sm7 ok7=>?_⟩
   have keepD:∀ {F8:Addr→Prop} {H8:Hp},Step (G.and p) F' H3 F8 H8→H8 p = some (.lst xs):=fun s8=>(s8.res p _ (.inr rfl) hF eD).2
   rcases alt with ⟨rfl,y,δ8,ee,rfl,rfl⟩ | ⟨rfl,rfl,rfl⟩
   · refine iteT ?_
     refine ⟨G.and p,F7,δ7,y,δ8,ok7,ee,fun u H8 F8 st8 sm8 ok8 r8=>?_⟩
     have s78:=st7.trans st8
     have eD8:=keepD s78
     have ry:=rel_of n r8
     have rl8:RelL K H8 F8 yi xs:=RelL.step ok.fd s78 yi xs rl
     have hF8:F8 p:=ok8.rf p (.inr rfl)
     have pk:Step g0 F8 H8 F8 (upd H8 p (.lst (xs++[u]))):=⟨fun b o _ e nf=>by rw [upd_ne (fun z:b = p=>nf (by rw [z];exact hF8))];exact e,fun b z=>.inl z,fun _ _ r _ _=>r.elim,fun b ps e=>⟨ps,by rw [upd_ne (fun w:b = p=>by rw [w,eD8] at e;cases e)];exact e⟩⟩
     subst ez
     have hyl:yi.length < sizeLine:=by
      have:=congrArg List.length ey
      rw [List.length_append] at this
      simp only [List.length_cons] at this
      omega
     refine ⟨xs,eD8,by rw [rl8.length];exact hyl,ds.length - (i+1),by omega,F8,δ8.take δi.length,zs',xs++[u],yi++[y],rfl,hlt,tail,?_,el',by rw [List.append_assoc];exact ey,upd_same,?_,?_,fun z=>?_⟩
     · have:=(ok8.poke hg eD8 (xs++[u])).cut δi.length
       rw [dl,t2] at this
       rw [dl]
       exact this
     · exact RelL.step ok8.fd pk _ _ (rl8.append (RelL.one ry))
     · have s1:=st.trans (s78.sub hFs)
       refine ⟨fun b o t e nf=>?_,s1.grow,fun b o r f e=>?_,fun b ps e=>?_⟩
       · rw [upd_ne (fun w:b = p=>by rw [w,hp] at e;cases e)]
         exact s1.keep b o t e nf
       · obtain ⟨a1,a2⟩:=s1.res b o r f e
         refine ⟨a1,?_⟩
         rw [upd_ne (fun w:b = p=>by rw [w,hp] at e;cases e)]
         exact a2
       · rw [upd_ne (fun w:b = p=>by rw [w,hp] at e;cases e)]
         exact s1.tb b ps e
     · have z':=z
       rw [Bool.and_eq_true] at z'
       have s1:=((sm z).trans (sm7 z'.1)).trans (sm8 z'.2)
       refine ⟨fun b o t e=>?_,fun b ps e=>?_⟩
       · rw [upd_ne (fun w:b = p=>by rw [w,hp] at e;cases e)]
         exact s1.nt b o t e
       · rw [upd_ne (fun w:b = p=>by rw [w,hp] at e;cases e)]
         exact s1.tb b ps e
   · refine iteF ?_
     subst ez
     refine ⟨ds.length - (i+1),by omega,F7,δ7.take δi.length,_,xs,yi,rfl,hlt,tail,?_,el',ey,keepD st7,RelL.step ok.fd st7 yi xs rl,st.trans (st7.sub hFs),fun z=>?_⟩
     · have:=ok7.cut δi.length
       rw [dl,t2] at this
       rw [dl]
       exact this
     · have z':=z
       rw [Bool.and_eq_true] at z'
       exact (sm z).trans (sm7 z'.1)
 · have hi':i = ds.length:=by omega
   subst hi'
   rw [List.drop_length] at el
   cases el
   rw [List.append_nil] at ey
   subst ey
   exact .inl ⟨(wk F' Hc st ok.fd ds.length).2 rfl,q _ Hc F' xs ok eD rl st sm⟩
end
end PP
end
section
namespace PP
open PySem
section
variable (cx:Cl)
def wE (e:E) (δ:Loc) (Q:D→Loc→Prop):Prop:=∃ d δ',evE cx e δ = some (d,δ')∧Q d δ'
def wT (e:E) (δ:Loc) (Q:Bool→Loc→Prop):Prop:=∃ d δ',evT cx e δ = some (d,δ')∧Q d δ'
def wEs (e:Es) (δ:Loc) (Q:List D→Loc→Prop):Prop:=∃ d δ',evEs cx e δ = some (d,δ')∧Q d δ'
def wO (e:Eo) (δ:Loc) (Q:Option Int→Loc→Prop):Prop:=∃ d δ',evO cx e δ = some (d,δ')∧Q d δ'
def wG (e:Eo) (δ:Loc) (Q:Bool→Loc→Prop):Prop:=∃ d δ',evG cx e δ = some (d,δ')∧Q d δ'
def wI (e:It) (δ:Loc) (Q:List D→Loc→Prop):Prop:=∃ d δ',evI cx e δ = some (d,δ')∧Q d δ'
def wS (s:S) (δ:Loc) (Q:Out→Prop):Prop:=∃ o,evS cx s δ = some o∧Q o
def wSs (s:Ss) (δ:Loc) (Q:Out→Prop):Prop:=∃ o,evSs cx s δ = some o∧Q o
def wTg (δ:Loc) (tg:Tg) (d:D) (Q:Loc→Prop):Prop:=∃ δ',setTg δ tg d = some δ'∧Q δ'
def wOp (op:Op) (x y:D) (Q:D→Prop):Prop:=∃ z,opD op x y = some z∧Q z
def wCmp (op:Cop) (x y:D) (Q:Bool→Prop):Prop:=∃ z,cmpD op x y = some z∧Q z
def wBlt (f:Blt) (ds:List D) (Q:D→Prop):Prop:=∃ z,bltD f ds = some z∧Q z
def wCall (f:Nat) (ds:List D) (Q:D→Prop):Prop:=∃ z,cx.call f ds = some z∧Q z
def wGet (δ:Loc) (i:Nat) (Q:D→Prop):Prop:=∃ z,PP.get δ i = some z∧Q z
def wIx (x y:D) (Q:D→Prop):Prop:=∃ z,ixD x y = some z∧Q z
def wSl (x:D) (lo hi:Option Int) (Q:D→Prop):Prop:=∃ z,slD x lo hi = some z∧Q z
def wTv (x:D) (Q:Bool→Prop):Prop:=∃ z,tv x = some z∧Q z
def wItems (x:D) (Q:List D→Prop):Prop:=∃ z,items x = some z∧Q z
def turnF (k:Nat) (tg:Tg) (ifs:Eo) (elt:E):D→Loc→Option (Option D × Loc):=fun x δ0=>do
 let δ2 ← setTg (δ0++List.replicate k .no) tg x
 let (b,δ3) ← evG cx ifs δ2
 if b then do
  let (y,δ4) ← evE cx elt δ3
  return (some y,δ4.take δ0.length)
 else return (none,δ3.take δ0.length)
def wComp (k:Nat) (tg:Tg) (ifs:Eo) (elt:E) (ds:List D) (δ:Loc) (Q:List D→Loc→Prop):Prop:=∃ ys δ',compL (turnF cx k tg ifs elt) ds δ = some (ys,δ')∧Q ys δ'
def forF (tg:Tg) (body:Ss):D→Loc→Option Out:=fun x δ0=>match setTg δ0 tg x with
 | some δ2=>evSs cx body δ2
 | none=>none
def wFor (tg:Tg) (body:Ss) (ds:List D) (δ:Loc) (Q:Out→Prop):Prop:=∃ o,forL (forF cx tg body) ds δ = some o∧Q o
def wWhile (c:E) (body:Ss) (n:Nat) (δ:Loc) (Q:Out→Prop):Prop:=∃ o,whileL (fun δ0=>evT cx c δ0) (fun δ0=>evSs cx body δ0) n δ = some o∧Q o
end
section
variable {α β γ:Type} {P P':α→Loc→Prop} {R R':α→Prop} {Q:β→Loc→Prop} {S:γ→Prop} {o:Option (α × Loc)} {u:Option α} {f:α × Loc→Option (β × Loc)} {g:α→Option (β × Loc)} {f':α × Loc→Option γ} {g':α→Option γ} {d:β} {r:γ} {δ:Loc} {c:Prop} [Decidable c]
theorem yb:(∃ r,o.bind f' = some r∧S r)↔∃ x δ1,o = some (x,δ1)∧∃ r,f' (x,δ1) = some r∧S r:=by
 cases o with
 | none=>exact ⟨fun ⟨_,e,_⟩=>(by cases e),fun ⟨_,_,e,_⟩=>(by cases e)⟩
 | some p=>exact ⟨fun h=>⟨p.1,p.2,rfl,h⟩,fun ⟨_,_,e,h⟩=>by cases e;exact h⟩
theorem ys:(∃ r,u.bind g' = some r∧S r)↔∃ x,u = some x∧∃ r,g' x = some r∧S r:=by
 cases u with
 | none=>exact ⟨fun ⟨_,e,_⟩=>(by cases e),fun ⟨_,e,_⟩=>(by cases e)⟩
 | some p=>exact ⟨fun h=>⟨p,rfl,h⟩,fun ⟨_,e,h⟩=>by cases e;exact h⟩
theorem yr:(∃ r',some r = some r'∧S r')↔S r:=⟨fun ⟨_,e,h⟩=>(by cases e;exact h),fun h=>⟨_,rfl,h⟩⟩
theorem yi:(∃ r',(if c then some r else none) = some r'∧S r')↔c∧S r:=by
 by_cases h:c
 · rw [if_pos h];exact yr.trans ⟨fun q=>⟨h,q⟩,fun q=>q.2⟩
 · rw [if_neg h];exact ⟨fun ⟨_,e,_⟩=>(by cases e),fun q=>absurd q.1 h⟩
theorem yn {A:Prop} (h:¬ A):(∃ r',(none:Option γ) = some r'∧S r')↔A:=⟨fun ⟨_,e,_⟩=>(by cases e),fun q=>absurd q h⟩
theorem xq {o:Option (β × Loc)}:(∃ d δ',o = some (d,δ')∧Q d δ')↔∃ r,o = some r∧Q r.1 r.2:=⟨fun ⟨_,_,e,q⟩=>⟨_,e,q⟩,fun ⟨r,e,q⟩=>⟨r.1,r.2,e,q⟩⟩
theorem xb:(∃ d δ',o.bind f = some (d,δ')∧Q d δ')↔∃ x δ1,o = some (x,δ1)∧∃ d δ',f (x,δ1) = some (d,δ')∧Q d δ':=xq.trans (yb.trans ⟨fun ⟨x,y,e,h⟩=>⟨x,y,e,xq.mpr h⟩,fun ⟨x,y,e,h⟩=>⟨x,y,e,xq.mp h⟩⟩)
theorem x1:(∃ d δ',u.bind g = some (d,δ')∧Q d δ')↔∃ x,u = some x∧∃ d δ',g x = some (d,δ')∧Q d δ':=xq.trans (ys.trans ⟨fun ⟨x,e,h⟩=>⟨x,e,xq.mpr h⟩,fun ⟨x,e,h⟩=>⟨x,e,xq.mp h⟩⟩)
theorem xr:(∃ d' δ',some (d,δ) = some (d',δ')∧Q d' δ')↔Q d δ:=xq.trans yr
theorem xi:(∃ d' δ',(if c then some (d,δ) else none) = some (d',δ')∧Q d' δ')↔c∧Q d δ:=xq.trans yi
theorem xn {A:Prop} (h:¬ A):(∃ d' δ',(none:Option (β × Loc)) = some (d',δ')∧Q d' δ')↔A:=xq.trans (yn h)
theorem xc (h:∀ x δ,P x δ↔P' x δ):(∃ x δ1,o = some (x,δ1)∧P x δ1)↔∃ x δ1,o = some (x,δ1)∧P' x δ1:=⟨fun ⟨x,δ,e,p⟩=>⟨x,δ,e,(h x δ).mp p⟩,fun ⟨x,δ,e,p⟩=>⟨x,δ,e,(h x δ).mpr p⟩⟩
theorem xd (h:∀ x,R x↔R' x):(∃ x,u = some x∧R x)↔∃ x,u = some x∧R' x:=⟨fun ⟨x,e,p⟩=>⟨x,e,(h x).mp p⟩,fun ⟨x,e,p⟩=>⟨x,e,(h x).mpr p⟩⟩
end
theorem exBl {b:Bool} {P:Bool→Prop}:(∃ k,D.bl b = D.bl k∧P k)↔P b:=⟨fun ⟨_,e,q⟩=>by cases e;exact q,fun q=>⟨_,rfl,q⟩⟩
theorem exInt {b:Int} {P:Int→Prop}:(∃ k,D.int b = D.int k∧P k)↔P b:=⟨fun ⟨_,e,q⟩=>by cases e;exact q,fun q=>⟨_,rfl,q⟩⟩
theorem exStr {b:Str} {P:Str→Prop}:(∃ k,D.str b = D.str k∧P k)↔P b:=⟨fun ⟨_,e,q⟩=>by cases e;exact q,fun q=>⟨_,rfl,q⟩⟩
theorem exLst {b:List D} {P:List D→Prop}:(∃ k,D.lst b = D.lst k∧P k)↔P b:=⟨fun ⟨_,e,q⟩=>by cases e;exact q,fun q=>⟨_,rfl,q⟩⟩
section
variable {cx:Cl} {δ:Loc}
theorem wE_var {i:Nat} {Q:D→Loc→Prop}:wE cx (.var i) δ Q↔wGet δ i fun d=>Q d (demote δ i):=x1.trans (xd fun _=>xr)
theorem wE_pk {i:Nat} {Q:D→Loc→Prop}:wE cx (.pk i) δ Q↔wGet δ i fun d=>Q d δ:=x1.trans (xd fun _=>xr)
theorem wE_glob {i:Nat} {Q:D→Loc→Prop}:wE cx (.glob i) δ Q↔∃ d,cx.gl[i]? = some d∧Q d δ:=x1.trans (xd fun _=>xr)
theorem wE_int {i:Int} {Q:D→Loc→Prop}:wE cx (.int i) δ Q↔Q (.int i) δ:=xr
theorem wE_bl {i:Bool} {Q:D→Loc→Prop}:wE cx (.bl i) δ Q↔Q (.bl i) δ:=xr
theorem wE_non {Q:D→Loc→Prop}:wE cx .non δ Q↔Q .non δ:=xr
theorem wE_str {i:Str} {Q:D→Loc→Prop}:wE cx (.str i) δ Q↔Q (.str i) δ:=xr
theorem wE_bin {op:Op} {a b:E} {Q:D→Loc→Prop}:wE cx (.bin op a b) δ Q↔wE cx a δ fun x δ1=>wE cx b δ1 fun y δ2=>wOp op x y fun z=>Q z δ2:=xb.trans (xc fun _ _=>xb.trans (xc fun _ _=>x1.trans (xd fun _=>xr)))
theorem wE_cmp {op:Cop} {a b:E} {Q:D→Loc→Prop}:wE cx (.cmp op a b) δ Q↔wE cx a δ fun x δ1=>wE cx b δ1 fun y δ2=>wCmp op x y fun z=>Q (.bl z) δ2:=xb.trans (xc fun _ _=>xb.trans (xc fun _ _=>x1.trans (xd fun _=>xr)))
theorem wT_cmp {op:Cop} {a b:E} {Q:Bool→Loc→Prop}:wT cx (.cmp op a b) δ Q↔wE cx a δ fun x δ1=>wE cx b δ1 fun y δ2=>wCmp op x y fun z=>Q z δ2:=xb.trans (xc fun _ _=>xb.trans (xc fun _ _=>x1.trans (xd fun _=>xr)))
theorem wE_and {a b:E} {Q:D→Loc→Prop}:wE cx (.and a b) δ Q↔wE cx a δ fun x δ1=>∃ k,x = .bl k∧if k = true then wE cx b δ1 Q else Q (.bl false) δ1:=xb.trans (xc fun x _=>by
 cases x with
 | bl k=>refine Iff.trans ?_ exBl.symm;cases k;exact xr;exact Iff.rfl
 | _=>exact xn fun ⟨_,e,_⟩=>by cases e)
theorem wE_or {a b:E} {Q:D→Loc→Prop}:wE cx (.or a b) δ Q↔wE cx a δ fun x δ1=>∃ k,x = .bl k∧if k = true then Q (.bl true) δ1 else wE cx b δ1 Q:=xb.trans (xc fun x _=>by
 cases x with
 | bl k=>refine Iff.trans ?_ exBl.symm;cases k;exact Iff.rfl;exact xr
 | _=>exact xn fun ⟨_,e,_⟩=>by cases e)
theorem wE_not {a:E} {Q:D→Loc→Prop}:wE cx (.not a) δ Q↔wE cx a δ fun x δ1=>∃ k,x = .bl k∧Q (.bl (!k)) δ1:=xb.trans (xc fun x _=>by
 cases x with
 | bl k=>refine Iff.trans ?_ exBl.symm;exact xr
 | _=>exact xn fun ⟨_,e,_⟩=>by cases e)
theorem wT_and {a b:E} {Q:Bool→Loc→Prop}:wT cx (.and a b) δ Q↔wT cx a δ fun k δ1=>if k = true then wT cx b δ1 Q else Q false δ1:=xb.trans (xc fun k _=>by cases k;exact xr;exact Iff.rfl)
theorem wT_or {a b:E} {Q:Bool→Loc→Prop}:wT cx (.or a b) δ Q↔wT cx a δ fun k δ1=>if k = true then Q true δ1 else wT cx b δ1 Q:=xb.trans (xc fun k _=>by cases k;exact Iff.rfl;exact xr)
theorem wT_not {a:E} {Q:Bool→Loc→Prop}:wT cx (.not a) δ Q↔wT cx a δ fun k δ1=>Q (!k) δ1:=xb.trans (xc fun _ _=>xr)
theorem wT_var {i:Nat} {Q:Bool→Loc→Prop}:wT cx (.var i) δ Q↔wGet δ i fun d=>wTv d fun b=>Q b δ:=x1.trans (xd fun _=>x1.trans (xd fun _=>xr))
theorem wT_pk {i:Nat} {Q:Bool→Loc→Prop}:wT cx (.pk i) δ Q↔wGet δ i fun d=>wTv d fun b=>Q b δ:=x1.trans (xd fun _=>x1.trans (xd fun _=>xr))
theorem wT_call {f:Nat} {es:Es} {Q:Bool→Loc→Prop}:wT cx (.call f es) δ Q↔wEs cx es δ fun ds δ1=>wCall cx f ds fun d=>wTv d fun b=>Q b δ1:=xb.trans (xc fun _ _=>x1.trans (xd fun _=>x1.trans (xd fun _=>xr)))
theorem wT_blt {f:Blt} {es:Es} {Q:Bool→Loc→Prop}:wT cx (.blt f es) δ Q↔wEs cx es δ fun ds δ1=>wBlt f ds fun d=>wTv d fun b=>Q b δ1:=xb.trans (xc fun _ _=>x1.trans (xd fun _=>x1.trans (xd fun _=>xr)))
theorem wE_ite {c a b:E} {Q:D→Loc→Prop}:wE cx (.ite c a b) δ Q↔wT cx c δ fun k δ1=>if k = true then wE cx a δ1 Q else wE cx b δ1 Q:=xb.trans (xc fun k _=>by cases k<;>exact Iff.rfl)
theorem wE_tup {es:Es} {Q:D→Loc→Prop}:wE cx (.tup es) δ Q↔wEs cx es δ fun ds δ1=>ds.length≤sizeLine∧Q (.tup ds) δ1:=xb.trans (xc fun _ _=>xi)
theorem wE_lst {es:Es} {Q:D→Loc→Prop}:wE cx (.lst es) δ Q↔wEs cx es δ fun ds δ1=>ds.length≤sizeLine∧Q (.lst ds) δ1:=xb.trans (xc fun _ _=>xi)
theorem wE_ix {a b:E} {Q:D→Loc→Prop}:wE cx (.ix a b) δ Q↔wE cx a δ fun x δ1=>wE cx b δ1 fun y δ2=>wIx x y fun z=>Q z δ2:=xb.trans (xc fun _ _=>xb.trans (xc fun _ _=>x1.trans (xd fun _=>xr)))
theorem wE_sl {a:E} {lo hi:Eo} {Q:D→Loc→Prop}:wE cx (.sl a lo hi) δ Q↔wE cx a δ fun x δ1=>wO cx lo δ1 fun l δ2=>wO cx hi δ2 fun h δ3=>wSl x l h fun z=>Q z δ3:=xb.trans (xc fun _ _=>xb.trans (xc fun _ _=>xb.trans (xc fun _ _=>x1.trans (xd fun _=>xr))))
theorem wE_call {f:Nat} {es:Es} {Q:D→Loc→Prop}:wE cx (.call f es) δ Q↔wEs cx es δ fun ds δ1=>wCall cx f ds fun z=>Q z δ1:=xb.trans (xc fun _ _=>x1.trans (xd fun _=>xr))
theorem wE_blt {f:Blt} {es:Es} {Q:D→Loc→Prop}:wE cx (.blt f es) δ Q↔wEs cx es δ fun ds δ1=>wBlt f ds fun z=>Q z δ1:=xb.trans (xc fun _ _=>x1.trans (xd fun _=>xr))
theorem wE_pop {i:Nat} {Q:D→Loc→Prop}:wE cx (.pop i) δ Q↔∃ ds d,δ[i]? = some (.own (ds++[d]))∧Q d (δ.set i (.own ds)):=by
 unfold wE
 simp only [evE]
 constructor
 · rintro ⟨d,δ',e,q⟩
   split at e
   · rename_i ds h
     split at e
     · rename_i d0 hl
       cases e
       refine ⟨ds.dropLast,d,?_,q⟩
       rw [h]
       obtain ⟨z,rfl⟩:=List.getLast?_eq_some_iff.mp hl
       simp
     · cases e
   · cases e
 · rintro ⟨ds,d,h,q⟩
   refine ⟨d,_,?_,q⟩
   rw [h]
   simp
theorem wE_isdig {i:Nat} {Q:D→Loc→Prop}:wE cx (.isdig i) δ Q↔wGet δ i fun d=>∃ x,d = .str x∧Q (.bl (decide (x.length > 0) && x.cps.all Unicode.isDigit)) δ:=x1.trans (xd fun x=>by
 cases x with
 | str k=>refine Iff.trans ?_ exStr.symm;exact xr
 | _=>exact xn fun ⟨_,e,_⟩=>by cases e)
theorem wEs_nil {Q:List D→Loc→Prop}:wEs cx .nil δ Q↔Q [] δ:=xr
theorem wEs_cons {e:E} {es:Es} {Q:List D→Loc→Prop}:wEs cx (.cons e es) δ Q↔wE cx e δ fun x δ1=>wEs cx es δ1 fun xs δ2=>Q (x::xs) δ2:=xb.trans (xc fun _ _=>xb.trans (xc fun _ _=>xr))
theorem wO_no {Q:Option Int→Loc→Prop}:wO cx .no δ Q↔Q none δ:=xr
theorem wO_yes {e:E} {Q:Option Int→Loc→Prop}:wO cx (.yes e) δ Q↔wE cx e δ fun x δ1=>∃ i,x = .int i∧Q (some i) δ1:=xb.trans (xc fun x _=>by
 cases x with
 | int k=>refine Iff.trans ?_ exInt.symm;exact xr
 | _=>exact xn fun ⟨_,e,_⟩=>by cases e)
theorem wG_no {Q:Bool→Loc→Prop}:wG cx .no δ Q↔Q true δ:=xr
theorem wG_yes {e:E} {Q:Bool→Loc→Prop}:wG cx (.yes e) δ Q↔wT cx e δ Q:=Iff.rfl
theorem wI_rng {e:E} {Q:List D→Loc→Prop}:wI cx (.rng e) δ Q↔wE cx e δ fun x δ1=>∃ j,x = .int j∧(-(2 ^ 62)≤j∧j < 2 ^ 62)∧Q (rngD 0 j.toNat) δ1:=xb.trans (xc fun x _=>by
 cases x with
 | int k=>refine Iff.trans ?_ exInt.symm;exact xi
 | _=>exact xn fun ⟨_,e,_⟩=>by cases e)
theorem wI_sq {e:E} {Q:List D→Loc→Prop}:wI cx (.sq e) δ Q↔wE cx e δ fun x δ1=>wItems x fun ds=>Q ds δ1:=xb.trans (xc fun _ _=>x1.trans (xd fun _=>xr))
theorem wE_comp {k:Nat} {tg:Tg} {src:It} {ifs:Eo} {elt:E} {Q:D→Loc→Prop}:wE cx (.comp k tg src ifs elt) δ Q↔wI cx src δ fun ds δ1=>wComp cx k tg ifs elt ds δ1 fun ys δ2=>ys.length≤sizeLine∧Q (.lst ys) δ2:=xb.trans (xc fun _ _=>xb.trans (xc fun _ _=>xi))
theorem wComp_nil {k:Nat} {tg:Tg} {ifs:Eo} {elt:E} {Q:List D→Loc→Prop}:wComp cx k tg ifs elt [] δ Q↔Q [] δ:=xr
theorem wComp_cons {k:Nat} {tg:Tg} {ifs:Eo} {elt:E} {x:D} {xs:List D} {Q:List D→Loc→Prop}:wComp cx k tg ifs elt (x::xs) δ Q↔wTg (δ++List.replicate k .no) tg x fun δ2=>wG cx ifs δ2 fun b δ3 =>
 if b = true then wE cx elt δ3 fun y δ4=>wComp cx k tg ifs elt xs (δ4.take δ.length) fun ys δ5=>Q (y::ys) δ5 else wComp cx k tg ifs elt xs (δ3.take δ.length) Q:=xb.trans (x1.trans (xd fun _=>xb.trans (xc fun b _=>by cases b;exact xr.trans (xb.trans (xc fun _ _=>xr));exact xb.trans (xc fun _ _=>xr.trans (xb.trans (xc fun _ _=>xr))))))
end
end PP
end
section
namespace PP
open PySem
section
variable (cx:Cl)
def thenS (ss:Ss) (Q:Out→Prop):Out→Prop
 | .nx δ=>wSs cx ss δ Q
 | .rt d δ=>Q (.rt d δ)
 | .bk δ=>Q (.bk δ)
 | .ct δ=>Q (.ct δ)
 | .ro d δ=>Q (.ro d δ)
end
def loopS (next:Loc→Prop) (Q:Out→Prop):Out→Prop
 | .nx δ=>next δ
 | .ct δ=>next δ
 | .bk δ=>Q (.nx δ)
 | .rt d δ=>Q (.rt d δ)
 | .ro d δ=>Q (.ro d δ)
def wSet (δ:Loc) (i:Nat) (s:Sl) (Q:Loc→Prop):Prop:=i < δ.length∧Q (δ.set i s)
def wZip (pre δ:Loc) (i:Nat) (s:Sl) (Q:Loc→Prop):Prop:=i < δ.length∧Q (pre.reverse++δ.set i s)
def wPut (δ:Loc) (i:Nat) (s:Sl) (Q:Loc→Prop):Prop:=Q (δ.set i s)
def wPutZ (pre δ:Loc) (i:Nat) (s:Sl) (Q:Loc→Prop):Prop:=Q (pre.reverse++δ.set i s)
def wRev (pre δ:Loc) (Q:Loc→Prop):Prop:=Q (pre.reverse++δ)
def wVar (δ0:Loc) (j:Nat) (δ:Loc) (i:Nat) (Q:D→Loc→Prop):Prop:=match δ[i]? with
 | some (.val d)=>Q d δ0
 | some (.own ds)=>Q (.lst ds) (δ0.set j (.val (.lst ds)))
 | _=>False
def wOwn (δ:Loc) (i:Nat) (Q:List D→Prop):Prop:=match δ[i]? with
 | some (.own ds)=>Q ds
 | _=>False
def wVal (δ:Loc) (i:Nat) (Q:D→Prop):Prop:=match δ[i]? with
 | some (.val d)=>Q d
 | _=>False
section
variable {cx:Cl} {δ pre:Loc}
theorem thenS_nx {ss:Ss} {Q:Out→Prop}:thenS cx ss Q (.nx δ)↔wSs cx ss δ Q:=Iff.rfl
theorem thenS_rt {ss:Ss} {Q:Out→Prop} {d:D}:thenS cx ss Q (.rt d δ)↔Q (.rt d δ):=Iff.rfl
theorem thenS_bk {ss:Ss} {Q:Out→Prop}:thenS cx ss Q (.bk δ)↔Q (.bk δ):=Iff.rfl
theorem thenS_ct {ss:Ss} {Q:Out→Prop}:thenS cx ss Q (.ct δ)↔Q (.ct δ):=Iff.rfl
theorem loopS_nx {n:Loc→Prop} {Q:Out→Prop}:loopS n Q (.nx δ)↔n δ:=Iff.rfl
theorem loopS_ct {n:Loc→Prop} {Q:Out→Prop}:loopS n Q (.ct δ)↔n δ:=Iff.rfl
theorem loopS_bk {n:Loc→Prop} {Q:Out→Prop}:loopS n Q (.bk δ)↔Q (.nx δ):=Iff.rfl
theorem loopS_rt {n:Loc→Prop} {Q:Out→Prop} {d:D}:loopS n Q (.rt d δ)↔Q (.rt d δ):=Iff.rfl
theorem wSet_zip {i:Nat} {s:Sl} {Q:Loc→Prop}:wSet δ i s Q↔wZip [] δ i s Q:=Iff.rfl
theorem wZip_succ {i:Nat} {s t:Sl} {Q:Loc→Prop}:wZip pre (t::δ) (i+1) s Q↔wZip (t::pre) δ i s Q:=by simp [wZip]
theorem wZip_zero {s t:Sl} {Q:Loc→Prop}:wZip pre (t::δ) 0 s Q↔wRev pre (s::δ) Q:=by simp [wZip,wRev]
theorem wPut_zip {i:Nat} {s:Sl} {Q:Loc→Prop}:wPut δ i s Q↔wPutZ [] δ i s Q:=Iff.rfl
theorem wPutZ_succ {i:Nat} {s t:Sl} {Q:Loc→Prop}:wPutZ pre (t::δ) (i+1) s Q↔wPutZ (t::pre) δ i s Q:=by simp [wPutZ]
theorem wPutZ_zero {s t:Sl} {Q:Loc→Prop}:wPutZ pre (t::δ) 0 s Q↔wRev pre (s::δ) Q:=by simp [wPutZ,wRev]
theorem wRev_cons {t:Sl} {Q:Loc→Prop}:wRev (t::pre) δ Q↔wRev pre (t::δ) Q:=by simp [wRev]
theorem wRev_nil {Q:Loc→Prop}:wRev [] δ Q↔Q δ:=Iff.rfl
theorem wVar_succ {δ0:Loc} {i j:Nat} {t:Sl} {Q:D→Loc→Prop}:wVar δ0 j (t::δ) (i+1) Q↔wVar δ0 j δ i Q:=Iff.rfl
theorem wVar_val {δ0:Loc} {j:Nat} {d:D} {Q:D→Loc→Prop}:wVar δ0 j (.val d::δ) 0 Q↔Q d δ0:=Iff.rfl
theorem wVar_own {δ0:Loc} {j:Nat} {ds:List D} {Q:D→Loc→Prop}:wVar δ0 j (.own ds::δ) 0 Q↔wPut δ0 j (.val (.lst ds)) fun δ1=>Q (.lst ds) δ1:=Iff.rfl
theorem wGet_succ {i:Nat} {t:Sl} {Q:D→Prop}:wGet (t::δ) (i+1) Q↔wGet δ i Q:=Iff.rfl
theorem wGet_val {d:D} {Q:D→Prop}:wGet (.val d::δ) 0 Q↔Q d:=yr
theorem wGet_own {ds:List D} {Q:D→Prop}:wGet (.own ds::δ) 0 Q↔Q (.lst ds):=yr
theorem wOwn_succ {i:Nat} {t:Sl} {Q:List D→Prop}:wOwn (t::δ) (i+1) Q↔wOwn δ i Q:=Iff.rfl
theorem wOwn_own {ds:List D} {Q:List D→Prop}:wOwn (.own ds::δ) 0 Q↔Q ds:=Iff.rfl
theorem wVal_succ {i:Nat} {t:Sl} {Q:D→Prop}:wVal (t::δ) (i+1) Q↔wVal δ i Q:=Iff.rfl
theorem wVal_val {d:D} {Q:D→Prop}:wVal (.val d::δ) 0 Q↔Q d:=Iff.rfl
theorem wE_var' {i:Nat} {Q:D→Loc→Prop}:wE cx (.var i) δ Q↔wVar δ i δ i Q:=by
 rw [wE_var]
 unfold wGet wVar PP.get demote
 cases h:δ[i]? with
 | none=>simp
 | some s=>cases s<;>simp
theorem wE_pop' {i:Nat} {Q:D→Loc→Prop}:wE cx (.pop i) δ Q↔wOwn δ i fun es=>∃ ds d,es = ds++[d]∧wSet δ i (.own ds) fun δ'=>Q d δ':=by
 rw [wE_pop]
 unfold wOwn wSet
 constructor
 · rintro ⟨ds,d,h,q⟩
   rw [h]
   exact ⟨ds,d,rfl,(List.getElem?_eq_some_iff.mp h).1,q⟩
 · intro h
   split at h
   · rename_i es he
     obtain ⟨ds,d,rfl,_,q⟩:=h
     exact ⟨ds,d,he,q⟩
   · exact h.elim
theorem wSs_nil {Q:Out→Prop}:wSs cx .nil δ Q↔Q (.nx δ):=yr
theorem wSs_cons {s:S} {ss:Ss} {Q:Out→Prop}:wSs cx (.cons s ss) δ Q↔wS cx s δ (thenS cx ss Q):=by
 unfold wSs wS
 simp only [evSs]
 cases evS cx s δ with
 | none=>exact yn (fun ⟨_,e,_⟩=>by cases e)
 | some o =>
   refine Iff.trans ?_ yr.symm
   cases o with
   | nx δ1=>exact Iff.rfl
   | _=>exact yr
theorem wS_asg {tg:Tg} {e:E} {Q:Out→Prop}:wS cx (.asg tg e) δ Q↔wE cx e δ fun d δ1=>wTg δ1 tg d fun δ2=>Q (.nx δ2):=yb.trans (xc fun _ _=>ys.trans (xd fun _=>yr))
theorem wTg_nm {i:Nat} {d:D} {Q:Loc→Prop}:wTg δ (.nm i) d Q↔wSet δ i (.val d) Q:=yi
theorem wTg_tp {is:List Nat} {ds:List D} {Q:Loc→Prop}:wTg δ (.tp is) (.tup ds) Q↔(is.length = ds.length∧is.all (· < δ.length) = true)∧Q ((is.zip ds).foldl (fun δ p=>δ.set p.1 (.val p.2)) δ):=yi
theorem wS_new {i:Nat} {e:E} {Q:Out→Prop}:wS cx (.new i e) δ Q↔wE cx e δ fun d δ1=>∃ ds,d = .lst ds∧wSet δ1 i (.own ds) fun δ2=>Q (.nx δ2):=yb.trans (xc fun x _=>by
 cases x with
 | lst k=>refine Iff.trans ?_ exLst.symm;exact yi
 | _=>exact yn fun ⟨_,e,_⟩=>by cases e)
theorem wS_cmp {own:Bool} {i:Nat} {e:E} {Q:Out→Prop}:wS cx (.cmp own i e) δ Q↔wE cx e δ fun d δ1=>∃ ds,d = .lst ds∧wSet δ1 i (bif own then .own ds else .val (.lst ds)) fun δ2=>Q (.nx δ2):=yb.trans (xc fun x _=>by
 cases x with
 | lst k=>refine Iff.trans ?_ exLst.symm;cases own<;>exact yi
 | _=>exact yn fun ⟨_,e,_⟩=>by cases e)
theorem wS_cmpT {i:Nat} {e:E} {Q:Out→Prop}:wS cx (.cmp true i e) δ Q↔wE cx e δ fun d δ1=>∃ ds,d = .lst ds∧wSet δ1 i (.own ds) fun δ2=>Q (.nx δ2):=wS_cmp
theorem wS_cmpF {i:Nat} {e:E} {Q:Out→Prop}:wS cx (.cmp false i e) δ Q↔wE cx e δ fun d δ1=>∃ ds,d = .lst ds∧wSet δ1 i (.val (.lst ds)) fun δ2=>Q (.nx δ2):=wS_cmp
theorem wS_augA {i:Nat} {e:E} {Q:Out→Prop}:wS cx (.aug i .add e) δ Q↔wVal δ i fun x=>wE cx e δ fun y δ1=>∃ a b,x = .int a∧y = .int b∧wPut δ1 i (.val (.int (a+b))) fun δ2=>Q (.nx δ2):=by
 unfold wS wVal
 simp only [evS]
 cases δ[i]? with
 | none=>exact yn id
 | some s =>
   cases s with
   | val x =>
     refine yb.trans (xc fun y δ1=>?_)
     cases x with
     | int a =>
       cases y with
       | int b=>exact yr.trans ⟨fun q=>⟨_,_,rfl,rfl,q⟩,fun ⟨_,_,e1,e2,q⟩=>by cases e1;cases e2;exact q⟩
       | _=>exact yn fun ⟨_,_,_,e,_⟩=>by cases e
     | _=>exact yn fun ⟨_,_,e,_⟩=>by cases e
   | _=>exact yn id
theorem wS_ret {e:E} {Q:Out→Prop}:wS cx (.ret e) δ Q↔wE cx e δ fun d δ1=>Q (.rt d δ1):=yb.trans (xc fun _ _=>yr)
theorem wS_retN {Q:Out→Prop}:wS cx .retN δ Q↔Q (.rt .non δ):=yr
theorem wS_pass {Q:Out→Prop}:wS cx .pass δ Q↔Q (.nx δ):=yr
theorem wS_brk {Q:Out→Prop}:wS cx .brk δ Q↔Q (.bk δ):=yr
theorem wS_cont {Q:Out→Prop}:wS cx .cont δ Q↔Q (.ct δ):=yr
theorem wS_ifs {c:E} {a b:Ss} {Q:Out→Prop}:wS cx (.ifs c a b) δ Q↔wT cx c δ fun k δ1=>if k = true then wSs cx a δ1 Q else wSs cx b δ1 Q:=yb.trans (xc fun k _=>by cases k<;>exact Iff.rfl)
theorem wS_for {tg:Tg} {src:It} {body:Ss} {Q:Out→Prop}:wS cx (.for_ tg src body) δ Q↔wI cx src δ fun ds δ1=>wFor cx tg body ds δ1 Q:=yb.trans (xc fun _ _=>Iff.rfl)
theorem wS_while {c:E} {body:Ss} {Q:Out→Prop}:wS cx (.while_ c body) δ Q↔wWhile cx c body 1000 δ Q:=Iff.rfl
theorem wS_append {i:Nat} {e:E} {Q:Out→Prop}:wS cx (.append i e) δ Q↔wOwn δ i fun _=>wE cx e δ fun d δ1=>wOwn δ1 i fun ds=>ds.length < sizeLine∧wSet δ1 i (.own (ds++[d])) fun δ2=>Q (.nx δ2):=by
 unfold wS wOwn
 simp only [evS]
 cases δ[i]? with
 | none=>exact yn id
 | some s =>
   cases s with
   | own ds0 =>
     refine yb.trans (xc fun d δ1=>?_)
     dsimp only
     cases h1:δ1[i]? with
     | none=>exact yn id
     | some s =>
       cases s with
       | own ds=>exact yi.trans ⟨fun q=>⟨q.1,(List.getElem?_eq_some_iff.mp h1).1,q.2⟩,fun q=>⟨q.1,q.2.2⟩⟩
       | _=>exact yn id
   | _=>exact yn id
theorem wS_extend {i:Nat} {e:E} {Q:Out→Prop}:wS cx (.extend i e) δ Q↔wOwn δ i fun _=>wE cx e δ fun d δ1=>∃ ys,d = .lst ys∧wOwn δ1 i fun ds=>ds.length+ys.length≤sizeLine∧wSet δ1 i (.own (ds++ys)) fun δ2=>Q (.nx δ2):=by
 unfold wS wOwn
 simp only [evS]
 cases δ[i]? with
 | none=>exact yn id
 | some s =>
   cases s with
   | own ds0 =>
     refine yb.trans (xc fun d δ1=>?_)
     cases d with
     | lst ys =>
       refine Iff.trans ?_ exLst.symm
       dsimp only
       cases h1:δ1[i]? with
       | none=>exact yn id
       | some s =>
         cases s with
         | own ds=>exact yi.trans ⟨fun q=>⟨q.1,(List.getElem?_eq_some_iff.mp h1).1,q.2⟩,fun q=>⟨q.1,q.2.2⟩⟩
         | _=>exact yn id
     | _=>exact yn fun ⟨_,e,_⟩=>by cases e
   | _=>exact yn id
theorem wS_setix {i:Nat} {j e:E} {Q:Out→Prop}:wS cx (.setix i j e) δ Q↔wE cx e δ fun d δ1=>wOwn δ1 i fun _=>wE cx j δ1 fun y δ2=>wOwn δ2 i fun ds=>∃ k m,y = .int k∧L2.ixN ds.length k = some m∧wSet δ2 i (.own (ds.set m d)) fun δ3=>Q (.nx δ3):=yb.trans (xc fun d δ1=>by
 unfold wOwn
 dsimp only
 cases δ1[i]? with
 | none=>exact yn id
 | some s =>
   cases s with
   | own ds0 =>
     refine yb.trans (xc fun y δ2=>?_)
     cases y with
     | int k =>
       dsimp only
       cases h2:δ2[i]? with
       | none=>exact yn id
       | some s =>
         cases s with
         | own ds =>
           dsimp only
           cases h3:L2.ixN ds.length k with
           | none=>exact yn fun ⟨_,_,e1,e2,_⟩=>by cases e1;rw [h3] at e2;cases e2
           | some m=>exact yr.trans ⟨fun q=>⟨_,_,rfl,h3,(List.getElem?_eq_some_iff.mp h2).1,q⟩,fun ⟨_,_,e1,e2,_,q⟩=>by cases e1;rw [h3] at e2;cases e2;exact q⟩
         | _=>exact yn id
     | _ =>
       refine yn ?_
       split
       · exact fun ⟨_,_,e,_⟩=>by cases e
       · exact id
   | _=>exact yn id)
theorem wFor_nil {tg:Tg} {body:Ss} {Q:Out→Prop}:wFor cx tg body [] δ Q↔Q (.nx δ):=yr
theorem wFor_cons {tg:Tg} {body:Ss} {x:D} {xs:List D} {Q:Out→Prop}:wFor cx tg body (x::xs) δ Q↔wTg δ tg x fun δ2=>wSs cx body δ2 (loopS (fun δ3=>wFor cx tg body xs δ3 Q) Q):=by
 unfold wFor wTg wSs
 simp only [forL,forF]
 cases setTg δ tg x with
 | none=>exact yn (fun ⟨_,e,_⟩=>by cases e)
 | some δ2 =>
   refine Iff.trans ?_ yr.symm
   dsimp only
   cases evSs cx body δ2 with
   | none=>exact yn (fun ⟨_,e,_⟩=>by cases e)
   | some o =>
     refine Iff.trans ?_ yr.symm
     cases o with
     | nx δ1=>exact Iff.rfl
     | ct δ1=>exact Iff.rfl
     | _=>exact yr
theorem wWhile_succ {c:E} {body:Ss} {n:Nat} {Q:Out→Prop}:wWhile cx c body (n+1) δ Q↔wT cx c δ fun k δ1=>if k = true then wSs cx body δ1 (loopS (fun δ3=>wWhile cx c body n δ3 Q) Q) else Q (.nx δ1):=by
 unfold wWhile wT wSs
 simp only [whileL]
 cases evT cx c δ with
 | none=>exact yn (fun ⟨_,_,e,_⟩=>by cases e)
 | some p =>
   refine Iff.trans ?_ (xq.trans yr).symm
   obtain ⟨k,δ1⟩:=p
   cases k with
   | false=>exact yr
   | true =>
     dsimp only
     cases evSs cx body δ1 with
     | none=>exact yn (fun ⟨_,e,_⟩=>by cases e)
     | some o =>
       refine Iff.trans ?_ yr.symm
       cases o with
       | nx δ1=>exact Iff.rfl
       | ct δ1=>exact Iff.rfl
       | _=>exact yr
theorem wFor_inv {tg:Tg} {body:Ss} {Q:Out→Prop} (P:List D→Loc→Prop) (step:∀ x xs δ,P (x::xs) δ→wTg δ tg x fun δ2=>wSs cx body δ2 (loopS (P xs) Q)) (fin:∀ δ,P [] δ→Q (.nx δ)):∀ (ds:List D) (δ:Loc),P ds δ→wFor cx tg body ds δ Q
 | [],δ,h=>wFor_nil.mpr (fin δ h)
 | x::xs,δ,h=>by
   rw [wFor_cons]
   obtain ⟨δ2,e,o,e2,q⟩:=step x xs δ h
   refine ⟨δ2,e,o,e2,?_⟩
   cases o with
   | nx δ1=>exact wFor_inv P step fin xs δ1 q
   | ct δ1=>exact wFor_inv P step fin xs δ1 q
   | rt d δ1=>exact q
   | ro d δ1=>exact q
   | bk δ1=>exact q
theorem wComp_each {k:Nat} {tg:Tg} {ifs:Eo} {elt:E} {Q:List D→Loc→Prop} (P:D→D→Prop):∀ (ds:List D),(∀ x∈ds,wTg (δ++List.replicate k .no) tg x fun δ2=>wG cx ifs δ2 fun b δ3=>b = true∧wE cx elt δ3 fun y δ4=>P x y∧δ4.take δ.length = δ) →
 (∀ ys,PySem.Paired P ds ys→Q ys δ)→wComp cx k tg ifs elt ds δ Q
 | [],h,q=>wComp_nil.mpr (q [] .nil)
 | x::xs,h,q=>by
   rw [wComp_cons]
   obtain ⟨δ2,e,b,δ3,e2,rfl,y,δ4,e3,p,t⟩:=h x List.mem_cons_self
   refine ⟨δ2,e,true,δ3,e2,?_⟩
   show if true = true then _ else _
   rw [if_pos rfl]
   refine ⟨y,δ4,e3,?_⟩
   show wComp cx k tg ifs elt xs (δ4.take δ.length) _
   rw [t]
   exact wComp_each P xs (fun z hz=>h z (List.mem_cons_of_mem _ hz)) fun ys r=>q (y::ys) (.cons p r)
end
theorem wOp_addI {a b:Int} {Q:D→Prop}:wOp .add (.int a) (.int b) Q↔Q (.int (a+b)):=yr
theorem wOp_subI {a b:Int} {Q:D→Prop}:wOp .sub (.int a) (.int b) Q↔Q (.int (a - b)):=yr
theorem wOp_mulI {a b:Int} {Q:D→Prop}:wOp .mul (.int a) (.int b) Q↔mulOk a b = true∧Q (.int (a * b)):=yi
theorem wOp_modI {a b:Int} {Q:D→Prop}:wOp .mod (.int a) (.int b) Q↔0 < b∧Q (.int (a % b)):=yi
theorem wOp_fdivI {a b:Int} {Q:D→Prop}:wOp .fdiv (.int a) (.int b) Q↔(0 < b∧b < 1073741824)∧Q (.int (a / b)):=yi
theorem wOp_powI {a b:Int} {Q:D→Prop}:wOp .pow (.int a) (.int b) Q↔(0≤b∧b≤1000000∧a.natAbs < 2 ^ 64)∧Q (.int (a ^ b.toNat)):=yi
theorem wOp_addS {a b:Str} {Q:D→Prop}:wOp .add (.str a) (.str b) Q↔a.length+b.length≤sizeLine∧Q (.str (a++b)):=yi
theorem wOp_mulS {a:Str} {b:Int} {Q:D→Prop}:wOp .mul (.str a) (.int b) Q↔(0≤b∧b≤1000∧a.length≤1000)∧Q (.str (repS a b.toNat)):=yi
theorem wOp_addT {a b:List D} {Q:D→Prop}:wOp .add (.tup a) (.tup b) Q↔(a≠[]∧a.length+b.length≤sizeLine)∧Q (.tup (a++b)):=yi
theorem wOp_addL {a b:List D} {Q:D→Prop}:wOp .add (.lst a) (.lst b) Q↔a.length+b.length≤sizeLine∧Q (.lst (a++b)):=yi
theorem wCmp_lt {a b:Int} {Q:Bool→Prop}:wCmp .lt (.int a) (.int b) Q↔Q (decide (a < b)):=yr
theorem wCmp_ltT {a b:List D} {Q:Bool→Prop}:wCmp .lt (.tup a) (.tup b) Q↔∃ k,ltOk (.tup a) (.tup b) = some k∧Q k:=Iff.rfl
theorem wCmp_ltS {a b:Str} {Q:Bool→Prop}:wCmp .lt (.str a) (.str b) Q↔Q (decide (a.cps.toList < b.cps.toList)):=yr
theorem wCmp_gt {a b:Int} {Q:Bool→Prop}:wCmp .gt (.int a) (.int b) Q↔Q (decide (b < a)):=yr
theorem wCmp_eqI {a b:Int} {Q:Bool→Prop}:wCmp .eq (.int a) (.int b) Q↔Q (decide (a = b)):=yr
theorem wCmp_eqS {a b:Str} {Q:Bool→Prop}:wCmp .eq (.str a) (.str b) Q↔Q (a == b):=yr
theorem wCmp_neL {a:List D} {Q:Bool→Prop}:wCmp .ne (.lst a) (.lst []) Q↔Q (!a.isEmpty):=by
 have h:depOk (.lst a) (.lst []) = true:=by
  show (true && decide (min (dep (.lst a)) 1≤150)) = true
  rw [Bool.true_and]
  exact decide_eq_true (Nat.le_trans (Nat.min_le_right _ _) (by decide))
 have e:cmpD .ne (.lst a) (.lst []) = some (!a.isEmpty):=by
  show (if depOk (.lst a) (.lst []) = true then _ else none) = _
  rw [if_pos h]
  cases a<;>rfl
 unfold wCmp
 rw [e]
 exact yr
theorem wCmp_inT {a:D} {ds:List D} {Q:Bool→Prop}:wCmp .isin a (.tup ds) Q↔dep a≤150∧Q (ds.any fun y=>eqD y a):=yi
theorem wBlt_lenL {ds:List D} {Q:D→Prop}:wBlt .len [.lst ds] Q↔Q (.int ds.length):=yr
theorem wBlt_lenT {ds:List D} {Q:D→Prop}:wBlt .len [.tup ds] Q↔Q (.int ds.length):=yr
theorem wBlt_lenS {x:Str} {Q:D→Prop}:wBlt .len [.str x] Q↔x.length≤sizeLine∧Q (.int x.length):=yi
theorem wBlt_min {i j:Int} {Q:D→Prop}:wBlt .min [.int i,.int j] Q↔Q (.int (if j < i then j else i)):=yr
theorem wBlt_max {i j:Int} {Q:D→Prop}:wBlt .max [.int i,.int j] Q↔Q (.int (if j > i then j else i)):=yr
theorem wBlt_maxL {ds:List D} {Q:D→Prop}:wBlt .max [.lst ds] Q↔∃ ns,intsD ds = some ns∧ns≠[]∧Q (.int (topI ns)):=by
 unfold wBlt
 simp only [bltD,maxD]
 cases h:intsD ds with
 | none=>simp
 | some ns=>by_cases hn:ns = []<;>simp [hn]
theorem wBlt_intB {b:Bool} {Q:D→Prop}:wBlt .toInt [.bl b] Q↔Q (.int (if b then 1 else 0)):=yr
theorem wBlt_intI {b:Int} {Q:D→Prop}:wBlt .toInt [.int b] Q↔Q (.int b):=yr
theorem wBlt_str {i:Int} {Q:D→Prop}:wBlt .toStr [.int i] Q↔i.natAbs.log2 < 1920∧Q (.str (toString i)):=yi
theorem wBlt_tupL {ds:List D} {Q:D→Prop}:wBlt .toTup [.lst ds] Q↔Q (.tup ds):=yr
theorem wBlt_tupT {ds:List D} {Q:D→Prop}:wBlt .toTup [.tup ds] Q↔Q (.tup ds):=yr
theorem wBlt_lstL {ds:List D} {Q:D→Prop}:wBlt .toLst [.lst ds] Q↔Q (.lst ds):=yr
theorem wBlt_lstT {ds:List D} {Q:D→Prop}:wBlt .toLst [.tup ds] Q↔Q (.lst ds):=yr
theorem wBlt_isIntI {i:Int} {Q:D→Prop}:wBlt .isInt [.int i] Q↔Q (.bl true):=yr
theorem wBlt_isBoolI {i:Int} {Q:D→Prop}:wBlt .isBool [.int i] Q↔Q (.bl false):=yr
theorem wTv_bl {b:Bool} {Q:Bool→Prop}:wTv (.bl b) Q↔Q b:=yr
theorem wTv_lst {ds:List D} {Q:Bool→Prop}:wTv (.lst ds) Q↔Q (!ds.isEmpty):=yr
theorem wIx_lst {ds:List D} {i:Int} {Q:D→Prop}:wIx (.lst ds) (.int i) Q↔∃ d,L2.atI ds i = some d∧Q d:=Iff.rfl
theorem wIx_tup0 {d:D} {ds:List D} {Q:D→Prop}:wIx (.tup (d::ds)) (.int 0) Q↔Q d:=by
 simp [wIx,ixD,L2.atI,L2.ixN]
theorem wItems_lst {ds:List D} {Q:List D→Prop}:wItems (.lst ds) Q↔Q ds:=yr
theorem wItems_tup {ds:List D} {Q:List D→Prop}:wItems (.tup ds) Q↔Q ds:=yr
theorem wItems_str {x:Str} {Q:List D→Prop}:wItems (.str x) Q↔x.length≤sizeLine∧Q (x.cps.toList.map fun c=>.str ⟨#[c]⟩):=yi
def wRun (G:List Fd) (gl:List D) (n i:Nat) (ds:List D) (Q:D→Prop):Prop:=∃ d,PP.run G gl n i ds = some d∧Q d
def retS (Q:D→Prop):Out→Prop
 | .rt d _=>Q d
 | .nx _=>Q .non
 | .ro ds _=>Q (.lst ds)
 | _=>False
theorem wRun_mono {G:List Fd} {gl:List D} {n i:Nat} {ds:List D} {P Q:D→Prop} (h:wRun G gl n i ds P) (k:∀ d,P d→Q d):wRun G gl n i ds Q:=by
 obtain ⟨d,e,p⟩:=h
 exact ⟨d,e,k d p⟩
theorem wRun_def {G:List Fd} {gl:List D} {n i:Nat} {ds:List D} {Q:D→Prop} (fd:Fd) (h:G[i]? = some fd) (hl:ds.length = fd.ps.length) (hf:fd.hf = false) (q:wSs ⟨PP.run G gl n,gl,hfs G⟩ fd.body (init (fd.ps++fd.loc).length ds) (retS Q)):wRun G gl (n+1) i ds Q:=by
 obtain ⟨o,e,q⟩:=q
 unfold wRun
 have:PP.run G gl (n+1) i ds = outD (evSs ⟨PP.run G gl n,gl,hfs G⟩ fd.body (init (fd.ps++fd.loc).length ds)):=by
  conv=>lhs;unfold PP.run
  rw [h]
  dsimp only
  rw [if_pos hl,hf]
  rfl
 rw [this,e]
 cases o with
 | rt d δ=>exact ⟨d,rfl,q⟩
 | ro d δ=>exact ⟨.lst d,rfl,q⟩
 | nx δ=>exact ⟨.non,rfl,q⟩
 | bk δ=>exact q.elim
 | ct δ=>exact q.elim
theorem wCall_run {G:List Fd} {gl:List D} {n f:Nat} {ds:List D} {Q:D→Prop}:wCall ⟨PP.run G gl n,gl,hfs G⟩ f ds Q↔wRun G gl n f ds Q:=Iff.rfl
theorem retS_rt {Q:D→Prop} {d:D} {δ:Loc}:retS Q (.rt d δ)↔Q d:=Iff.rfl
theorem retS_nx {Q:D→Prop} {δ:Loc}:retS Q (.nx δ)↔Q .non:=Iff.rfl
end PP
end
section
namespace PP
open PySem
theorem wIx_str {x:Str} {i:Int} {Q:D→Prop}:wIx (.str x) (.int i) Q↔x.length≤sizeLine∧∃ c,L2.atI x.cps.toList i = some c∧Q (.str ⟨#[c]⟩):=by
 unfold wIx ixD
 dsimp only
 constructor
 · rintro ⟨z,e,q⟩
   split at e
   · rw [Option.map_eq_some_iff] at e
     obtain ⟨c,e,rfl⟩:=e
     exact ⟨‹_›,c,e,q⟩
   · cases e
 · rintro ⟨h,c,e,q⟩
   exact ⟨_,by rw [if_pos h,e];rfl,q⟩
theorem wRun_eq {G:List Fd} {gl:List D} {n i:Nat} {ds:List D} {d:D} {Q:D→Prop} (h:PP.run G gl n i ds = some d):wRun G gl n i ds Q↔Q d:=by
 unfold wRun
 rw [h]
 exact ⟨fun ⟨_,e,q⟩=>by cases e;exact q,fun q=>⟨d,rfl,q⟩⟩
theorem wRun_out {G:List Fd} {gl:List D} {n i:Nat} {ds:List D} {d:D} (h:wRun G gl n i ds fun x=>x = d):PP.run G gl n i ds = some d:=by
 obtain ⟨x,e,rfl⟩:=h
 exact e
theorem at_ok {α:Type} {ds:List α} {j:Int} (h0:0≤j) (h1:j < ds.length):∃ d,d∈ds∧L2.atI ds j = some d:=by
 have hk:j.toNat < ds.length:=by omega
 refine ⟨ds[j.toNat],List.getElem_mem hk,?_⟩
 have:=L2.atI_nat (xs:=ds) (j:=j.toNat) (v:=ds[j.toNat]) (List.getElem?_eq_getElem hk)
 rwa [show ((j.toNat:Nat):Int) = j by omega] at this
theorem mul_r {a b:Int} (h0:-(2 ^ 64) < b) (h1:b < 2 ^ 64):mulOk a b = true:=by
 unfold mulOk
 simp only [decide_eq_true h0,decide_eq_true h1,Bool.and_self,Bool.or_true]
theorem str_app (a b:Str):(a++b).length = a.length+b.length:=by
 show (a.cps++b.cps).size = a.cps.size+b.cps.size
 exact Array.size_append
theorem small {n:Nat} (h:n≤1000):n≤sizeLine:=Nat.le_of_lt (Nat.lt_of_le_of_lt h (by decide))
theorem str_len (x:Str):x.cps.toList.length = x.length:=by
 show x.cps.toList.length = x.cps.size
 simp
theorem rng_mem {lo:Int} {n:Nat} {x:D} (h:x∈rngD lo n):∃ i:Nat,i < n∧x = .int (lo+i):=by
 unfold rngD at h
 rw [List.mem_map] at h
 obtain ⟨i,hi,rfl⟩:=h
 exact ⟨i,by simpa using hi,rfl⟩
theorem rng_len {lo:Int} {n:Nat}:(rngD lo n).length = n:=by simp [rngD]
theorem exInt2 {a b:Int} {P:Int→Int→Prop}:(∃ i j,D.int a = D.int i∧D.int b = D.int j∧P i j)↔P a b:=⟨fun ⟨_,_,e,f,q⟩=>by cases e;cases f;exact q,fun q=>⟨_,_,rfl,rfl,q⟩⟩
theorem wIx_tup1 {a b:D} {ds:List D} {Q:D→Prop}:wIx (.tup (a::b::ds)) (.int 1) Q↔Q b:=by
 have:L2.atI (a::b::ds) 1 = some b:=L2.atI_nat (j:=1) rfl
 simp [wIx,ixD,this]
theorem wIx_tup2 {a b c:D} {ds:List D} {Q:D→Prop}:wIx (.tup (a::b::c::ds)) (.int 2) Q↔Q c:=by
 have:L2.atI (a::b::c::ds) 2 = some c:=L2.atI_nat (j:=2) rfl
 simp [wIx,ixD,this]
theorem wIx_lst0 {d:D} {ds:List D} {Q:D→Prop}:wIx (.lst (d::ds)) (.int 0) Q↔Q d:=by
 simp [wIx,ixD,L2.atI,L2.ixN]
theorem wTg_tp2 {δ:Loc} {i j:Nat} {a b:D} {Q:Loc→Prop}:wTg δ (.tp [i,j]) (.tup [a,b]) Q↔wSet δ i (.val a) fun δ1=>wSet δ1 j (.val b) Q:=by
 rw [wTg_tp]
 unfold wSet
 simp only [List.all_cons,List.all_nil,List.length_set,Bool.and_true,Bool.and_eq_true,decide_eq_true_eq]
 exact ⟨fun ⟨⟨_,h1,h2⟩,q⟩=>⟨h1,h2,q⟩,fun ⟨h1,h2,q⟩=>⟨⟨rfl,h1,h2⟩,q⟩⟩
theorem wTg_tp3 {δ:Loc} {i j k:Nat} {a b c:D} {Q:Loc→Prop}:wTg δ (.tp [i,j,k]) (.tup [a,b,c]) Q↔wSet δ i (.val a) fun δ1=>wSet δ1 j (.val b) fun δ2=>wSet δ2 k (.val c) Q:=by
 rw [wTg_tp]
 unfold wSet
 simp only [List.all_cons,List.all_nil,List.length_set,Bool.and_true,Bool.and_eq_true,decide_eq_true_eq]
 exact ⟨fun ⟨⟨_,h1,h2,h3⟩,q⟩=>⟨h1,h2,h3,q⟩,fun ⟨h1,h2,h3,q⟩=>⟨⟨rfl,h1,h2,h3⟩,q⟩⟩
theorem wTg_tpl {δ:Loc} {is:List Nat} {ds:List D} {Q:Loc→Prop}:wTg δ (.tp is) (.lst ds) Q↔wTg δ (.tp is) (.tup ds) Q:=Iff.rfl
theorem wTg_pr2 {δ:Loc} {i j k:Nat} {a b c:D} {Q:Loc→Prop}:wTg δ (.pr i [j,k]) (.tup [a,.tup [b,c]]) Q↔wSet δ i (.val a) fun δ1=>wSet δ1 j (.val b) fun δ2=>wSet δ2 k (.val c) Q:=by
 unfold wTg wSet setTg
 simp only [List.all_cons,List.all_nil,List.length_set,Bool.and_true,Bool.and_eq_true,decide_eq_true_eq,List.length_cons,List.length_nil,true_and]
 constructor
 · rintro ⟨δ',e,q⟩
   split at e
   · rename_i h
     cases e
     exact ⟨h.1,h.2.1,h.2.2,q⟩
   · cases e
 · rintro ⟨h1,h2,h3,q⟩
   exact ⟨_,if_pos ⟨h1,h2,h3⟩,q⟩
end PP
end
section
namespace PP
open PySem
def SI:=And.intro (@List.map_cons.{0,0}) (And.intro (@List.map_nil.{0,0}) (And.intro (@List.cons_append.{0}) (And.intro (@List.nil_append.{0}) (And.intro (@List.append_nil.{0}) (And.intro (@List.length_cons.{0}) (And.intro (@List.length_nil.{0}) (And.intro (@List.replicate_succ.{0}) (@List.replicate_zero.{0}))))))))
def WS:=And.intro (@wE_pk) (And.intro (@wE_int) (And.intro (@wE_bl) (And.intro (@wE_non) (And.intro (@wE_str) (And.intro (@wE_bin) (And.intro (@wE_cmp) (And.intro (@wT_cmp) (And.intro (@wE_and) (And.intro (@wE_or) (And.intro (@wE_not) (And.intro (@wT_and) (And.intro (@wT_or) (And.intro (@wT_not) (And.intro (@wT_var) (And.intro (@wT_pk) (And.intro (@wT_call) (And.intro (@wT_blt) (And.intro (@wE_ite) (And.intro (@wE_tup) (And.intro (@wE_lst) (And.intro (@wE_ix) (And.intro (@wE_sl) (And.intro (@wE_call) (And.intro (@wE_blt) (And.intro (@wE_isdig) (And.intro (@wEs_nil) (And.intro (@wEs_cons) (And.intro (@wO_no) (And.intro (@wO_yes) (And.intro (@wG_no) (And.intro (@wG_yes) (And.intro (@wI_rng) (And.intro (@wI_sq) (And.intro (@wE_comp) (And.intro (@thenS_nx) (And.intro (@thenS_rt) (And.intro (@thenS_bk) (And.intro (@thenS_ct) (And.intro (@loopS_nx) (And.intro (@loopS_ct) (And.intro (@loopS_bk) (And.intro (@loopS_rt) (And.intro (@wSet_zip) (And.intro (@wZip_succ) (And.intro (@wZip_zero) (And.intro (@wPut_zip) (And.intro (@wPutZ_succ) (And.intro (@wPutZ_zero) (And.intro (@wRev_cons) (And.intro (@wRev_nil) (And.intro (@wVar_succ) (And.intro (@wVar_val) (And.intro (@wVar_own) (And.intro (@wGet_succ) (And.intro (@wGet_val) (And.intro (@wGet_own) (And.intro (@wOwn_succ) (And.intro (@wOwn_own) (And.intro (@wVal_succ) (And.intro (@wVal_val) (And.intro (@wE_var') (And.intro (@wE_pop') (And.intro (@wSs_nil) (And.intro (@wSs_cons) (And.intro (@wS_asg) (And.intro (@wTg_nm) (And.intro (@wS_new) (And.intro (@wS_cmpT) (And.intro (@wS_cmpF) (And.intro (@wS_augA) (And.intro (@wS_ret) (And.intro (@wS_retN) (And.intro (@wS_pass) (And.intro (@wS_brk) (And.intro (@wS_cont) (And.intro (@wS_ifs) (And.intro (@wS_for) (And.intro (@wS_while) (And.intro (@wS_append) (And.intro (@wS_extend) (And.intro (@wS_setix) (And.intro (@wOp_addI) (And.intro (@wOp_subI) (And.intro (@wOp_mulI) (And.intro (@wOp_modI) (And.intro (@wOp_fdivI) (And.intro (@wOp_powI) (And.intro (@wOp_addS) (And.intro (@wOp_mulS) (And.intro (@wOp_addT) (And.intro (@wOp_addL) (And.intro (@wCmp_lt) (And.intro (@wCmp_ltT) (And.intro (@wCmp_ltS) (And.intro (@wCmp_gt) (And.intro (@wCmp_eqI) (And.intro (@wCmp_eqS) (And.intro (@wCmp_neL) (And.intro (@wCmp_inT) (And.intro (@wBlt_lenL) (And.intro (@wBlt_lenT) (And.intro (@wBlt_lenS) (And.intro (@wBlt_min) (And.intro (@wBlt_max) (And.intro (@wBlt_maxL) (And.intro (@wBlt_intB) (And.intro (@wBlt_intI) (And.intro (@wBlt_str) (And.intro (@wBlt_tupL) (And.intro (@wBlt_tupT) (And.intro (@wBlt_lstL) (And.intro (@wBlt_lstT) (And.intro (@wBlt_isIntI) (And.intro (@wBlt_isBoolI) (And.intro (@wTv_bl) (And.intro (@wTv_lst) (And.intro (@wIx_lst) (And.intro (@wIx_tup0) (And.intro (@wItems_lst) (And.intro (@wItems_tup) (And.intro (@wItems_str) (And.intro (@wCall_run) (And.intro (@retS_rt) (And.intro (@retS_nx) (And.intro (@wIx_str) (And.intro (@exBl) (And.intro (@exInt) (And.intro (@exLst) (And.intro (@exInt2) (And.intro (@wIx_tup1) (And.intro (@wIx_tup2) (And.intro (@wTg_tp2) (And.intro (@wTg_tp3) (And.intro (@wTg_tpl) (And.intro (@wTg_pr2) (True.intro))))))))))))))))))))))))))))))))))))))))))))))))))))))))))))))))))))))))))))))))))))))))))))))))))))))))))))))))))))))))))))))))))))))))
end PP
end
section
namespace PP
open PySem
theorem ans_congr {α:Type} {lt lt':Nat→Nat→Bool} {n:Nat} (e:∀ i j,i < n→j < n→lt i j = lt' i j):∀ (t:PySem.W.KasT α),inR lt n t→ans lt t = ans lt' t
 | .ret a,_=>rfl
 | .ask i j k,h=>by
   unfold inR at h
   rw [ans_ask,ans_ask,← e i j h.1 h.2.1]
   exact ans_congr e _ h.2.2
theorem range_map {α β:Type} (d:α) (f:α→β) (xs:List α):(List.range xs.length).map (fun i=>f (xs.getD i d)) = xs.map f:=by
 apply List.ext_getElem
 · simp
 · intro i h1 h2
   simp only [List.length_map] at h2
   simp [List.getD,List.getElem?_eq_getElem h2]
theorem sortL_up {α:Type} [Inhabited α] (g:α→D) (lt:α→α→Bool) (hlt:∀ x y,ltOk (g x) (g y) = some (lt x y)) (as:∀ a b,lt a b = true→lt b a = false) (tr:∀ a b c,lt b a = false→lt c b = false→lt c a = false) (xs:List α) :
 ∃ ys:List α,sortL (xs.map g) = ys.map g∧ys.Perm xs∧∀ i j,i≤j→j < ys.length→lt (ys.getD j default) (ys.getD i default) = false:=by
 have rf:∀ a,lt a a = false:=fun a=>by
  cases e:lt a a with
  | false=>rfl
  | true=>rw [as a a e] at e;cases e
 unfold sortL
 rw [List.length_map]
 split
 · rename_i h
   refine ⟨xs,rfl,List.Perm.refl _,fun i j h1 h2=>?_⟩
   have:i = j:=by omega
   subst this
   exact rf _
 · rename_i h
   have hg:∀ i,i < xs.length→(xs.map g).getD i .non = g (xs.getD i default):=fun i hi=>by
    simp [List.getD,List.getElem?_eq_getElem hi]
   have e:ans (ltIx (xs.map g)) (PySem.W.kas_sort xs.length) = ans (fun i j=>lt (xs.getD i default) (xs.getD j default)) (PySem.W.kas_sort xs.length):=by
    refine ans_congr (n:=xs.length) (fun i j hi hj=>?_) _ (sort_in (by omega))
    unfold ltIx
    rw [hg i hi,hg j hj,hlt]
    rfl
   rw [e]
   obtain ⟨z,p,u⟩:=sort_ok (lt:=fun i j=>lt (xs.getD i default) (xs.getD j default)) ⟨fun a b=>as _ _,fun a b c=>tr _ _ _⟩ xs.length (by omega)
   have pl:(ans (fun i j=>lt (xs.getD i default) (xs.getD j default)) (PySem.W.kas_sort xs.length)).toList.Perm (List.range xs.length):=(letI:Tbs:=⟨[],[]⟩;sort_list _)
   generalize ans (fun i j=>lt (xs.getD i default) (xs.getD j default)) (PySem.W.kas_sort xs.length) = r at z p u pl ⊢
   refine ⟨r.toList.map fun i=>xs.getD i default,?_,?_,fun i j h1 h2=>?_⟩
   · rw [List.map_map]
     refine List.map_congr_left fun i hi=>?_
     exact hg i (by simpa using pl.mem_iff.mp hi)
   · have:=pl.map fun i=>xs.getD i default
     rwa [show (List.range xs.length).map (fun i=>xs.getD i default) = xs from by simpa using range_map default id xs] at this
   · rw [List.length_map,Array.length_toList,z] at h2
     have hr:∀ k,k < xs.length→(r.toList.map fun i=>xs.getD i default).getD k default = xs.getD (r.getD k 0) default:=fun k hk=>by
      have hk':k < r.toList.length:=by rw [Array.length_toList,z];exact hk
      have hk2:k < r.size:=by rw [z];exact hk
      simp [List.getD,hk2,Array.getD]
     rw [hr i (by omega),hr j h2]
     exact u i j h1 h2
section
variable {cx:Cl} {δ:Loc}
theorem wComp_map {α:Type} {k:Nat} {tg:Tg} {ifs:Eo} {elt:E} {Q:List D→Loc→Prop} (g:α→D) (p:α→Bool) (h:α→D):∀ (xs:List α),(∀ x∈xs,wTg (δ++List.replicate k .no) tg (g x) fun δ2=>wG cx ifs δ2 fun b δ3=>b = p x∧if b = true then wE cx elt δ3 fun y δ4=>y = h x∧δ4.take δ.length = δ else δ3.take δ.length = δ) →
 Q ((xs.filter p).map h) δ→wComp cx k tg ifs elt (xs.map g) δ Q
 | [],_,q=>wComp_nil.mpr q
 | x::xs,hx,q=>by
   rw [List.map_cons,wComp_cons]
   obtain ⟨δ2,e,b,δ3,e2,rfl,e3⟩:=hx x List.mem_cons_self
   refine ⟨δ2,e,_,δ3,e2,?_⟩
   cases hp:p x with
   | true =>
     rw [hp,if_pos rfl] at e3
     obtain ⟨y,δ4,e4,rfl,t⟩:=e3
     rw [if_pos rfl]
     refine ⟨_,δ4,e4,?_⟩
     show wComp cx k tg ifs elt _ (δ4.take δ.length) _
     rw [t]
     refine wComp_map g p h xs (fun z hz=>hx z (List.mem_cons_of_mem _ hz)) ?_
     rw [List.filter_cons_of_pos hp] at q
     exact q
   | false =>
     rw [hp,if_neg Bool.false_ne_true] at e3
     rw [if_neg Bool.false_ne_true,e3]
     refine wComp_map g p h xs (fun z hz=>hx z (List.mem_cons_of_mem _ hz)) ?_
     rw [List.filter_cons_of_neg (by simp [hp])] at q
     exact q
theorem wFor_map {α:Type} {tg:Tg} {body:Ss} {Q:Out→Prop} (g:α→D) (P:List α→Loc→Prop) (step:∀ x xs δ,P (x::xs) δ→wTg δ tg (g x) fun δ2=>wSs cx body δ2 (loopS (P xs) Q)) (fin:∀ δ,P [] δ→Q (.nx δ)) (xs:List α) (δ:Loc) (h:P xs δ):wFor cx tg body (xs.map g) δ Q:=by
 induction xs generalizing δ with
 | nil=>exact wFor_nil.mpr (fin δ h)
 | cons x xs ih =>
   rw [List.map_cons,wFor_cons]
   obtain ⟨δ2,e,o,e2,q⟩:=step x xs δ h
   refine ⟨δ2,e,o,e2,?_⟩
   cases o with
   | nx δ3=>exact ih δ3 q
   | ct δ3=>exact ih δ3 q
   | bk δ3=>exact q
   | rt d δ3=>exact q
   | ro d δ3=>exact q
end
end PP
end
section
namespace PP
open PySem
def wFnc (δ:Loc) (i:Nat) (Q:Nat→List D→Prop):Prop:=match δ[i]? with
 | some (.fnc k cs)=>Q k cs
 | _=>False
def wCaps (δ:Loc) (caps:List Nat) (Q:List D→Prop):Prop:=∃ cs,capsD δ caps = some cs∧Q cs
section
variable {cx:Cl} {δ:Loc}
theorem wFnc_succ {i:Nat} {t:Sl} {Q:Nat→List D→Prop}:wFnc (t::δ) (i+1) Q↔wFnc δ i Q:=by simp [wFnc]
theorem wFnc_fnc {k:Nat} {cs:List D} {Q:Nat→List D→Prop}:wFnc (.fnc k cs::δ) 0 Q↔Q k cs:=by simp [wFnc]
theorem wCaps_nil {Q:List D→Prop}:wCaps δ [] Q↔Q []:=by simp [wCaps,capsD]
theorem wCaps_cons {i:Nat} {r:List Nat} {Q:List D→Prop}:wCaps δ (i::r) Q↔wGet δ i fun d=>flat d = true∧wCaps δ r fun cs=>Q (d::cs):=by
 unfold wCaps wGet
 constructor
 · rintro ⟨cs,e,q⟩
   unfold capsD at e
   cases h:PP.get δ i with
   | none=>rw [h] at e;cases e
   | some d =>
     rw [h] at e
     dsimp only at e
     split at e
     · rw [Option.map_eq_some_iff] at e
       obtain ⟨x,e,rfl⟩:=e
       exact ⟨d,rfl,‹_›,x,e,q⟩
     · cases e
 · rintro ⟨d,h,f,cs,e,q⟩
   refine ⟨d::cs,?_,q⟩
   unfold capsD
   rw [h]
   dsimp only
   rw [if_pos f,e]
   rfl
theorem lfO_some {o:Option D} {d:D}:lfO o = some d↔o = some d∧lf d = true:=by
 cases o with
 | none=>simp [lfO]
 | some r =>
   unfold lfO
   dsimp only
   split
   · rename_i h
     constructor
     · intro e;cases e;exact ⟨rfl,h⟩
     · intro e;exact e.1
   · rename_i h
     constructor
     · intro e;cases e
     · rintro ⟨e,z⟩;cases e;exact absurd z h
theorem wE_callv {i:Nat} {es:Es} {Q:D→Loc→Prop}:wE cx (.callv i es) δ Q↔wFnc δ i fun k cs=>wEs cx es δ fun ds δ1=>lfL ds = true∧wCall cx k (ds++cs) fun z=>lf z = true∧Q z δ1:=by
 unfold wE wEs wCall wFnc
 simp only [evE,Option.bind_eq_bind,Option.bind_eq_some_iff,Prod.exists]
 constructor
 · rintro ⟨d,δ',⟨ds,δ1,h1,e⟩,q⟩
   split at e
   · rename_i h
     (try rw [h])
     split at e
     · rw [Option.map_eq_some_iff] at e
       obtain ⟨r,e,e2⟩:=e
       cases e2
       rw [lfO_some] at e
       exact ⟨ds,_,h1,‹_›,d,e.1,e.2,q⟩
     · cases e
   · cases e
 · intro h
   split at h
   · rename_i k cs hk
     obtain ⟨ds,δ1,h1,h2,z,h3,h4,q⟩:=h
     refine ⟨z,δ1,⟨ds,δ1,h1,?_⟩,q⟩
     (try rw [hk])
     (try dsimp only)
     rw [if_pos h2,lfO_some.mpr ⟨h3,h4⟩]
     rfl
   · exact h.elim
theorem wE_callF {f i:Nat} {es:Es} {Q:D→Loc→Prop}:wE cx (.callF f es i) δ Q↔wEs cx es δ fun ds δ1=>wFnc δ1 i fun k cs=>cx.hf f = true∧wCall cx f (ds++[.fn k cs]) fun z=>Q z δ1:=by
 unfold wE wEs wCall wFnc
 simp only [evE,Option.bind_eq_bind,Option.bind_eq_some_iff,Prod.exists]
 constructor
 · rintro ⟨d,δ',⟨ds,δ1,h1,e⟩,q⟩
   refine ⟨ds,δ1,h1,?_⟩
   split at e
   · rename_i h
     (try rw [h])
     split at e
     · rw [Option.map_eq_some_iff] at e
       obtain ⟨r,e,e2⟩:=e
       cases e2
       exact ⟨‹_›,d,e,q⟩
     · cases e
   · cases e
 · rintro ⟨ds,δ1,h1,h⟩
   split at h
   · rename_i k cs hk
     obtain ⟨h2,z,h3,q⟩:=h
     refine ⟨z,δ1,⟨ds,δ1,h1,?_⟩,q⟩
     (try rw [hk])
     (try dsimp only)
     rw [if_pos h2,h3]
     rfl
   · exact h.elim
theorem wS_retL {f k:Nat} {es:Es} {caps:List Nat} {Q:Out→Prop}:wS cx (.retL f es k caps) δ Q↔wEs cx es δ fun ds δ1=>wCaps δ1 caps fun cs=>cx.hf f = true∧wCall cx f (ds++[.fn k cs]) fun z=>lf z = true∧Q (.rt z δ1):=by
 unfold wS wEs wCall wCaps
 simp only [evS,Option.bind_eq_bind,Option.bind_eq_some_iff,Prod.exists]
 constructor
 · rintro ⟨o,⟨ds,δ1,h1,cs,h2,e⟩,q⟩
   refine ⟨ds,δ1,h1,cs,h2,?_⟩
   split at e
   · rw [Option.map_eq_some_iff] at e
     obtain ⟨r,e,e2⟩:=e
     cases e2
     rw [lfO_some] at e
     exact ⟨‹_›,r,e.1,e.2,q⟩
   · cases e
 · rintro ⟨ds,δ1,h1,cs,h2,h3,z,h4,h5,q⟩
   refine ⟨_,⟨ds,δ1,h1,cs,h2,?_⟩,q⟩
   rw [if_pos h3,lfO_some.mpr ⟨h4,h5⟩]
   rfl
end
theorem wBlt_intS {x:Str} {Q:D→Prop}:wBlt .toInt [.str x] Q↔x.length≤640∧∃ n,PySem.intText? x = some n∧Q (.int n):=by
 unfold wBlt
 simp only [bltD,toIntD]
 constructor
 · rintro ⟨z,e,q⟩
   split at e
   · rw [Option.map_eq_some_iff] at e
     obtain ⟨n,e1,rfl⟩:=e
     exact ⟨‹_›,n,e1,q⟩
   · cases e
 · rintro ⟨h,n,e,q⟩
   exact ⟨.int n,by rw [if_pos h,e];rfl,q⟩
theorem wRun_defF {G:List Fd} {gl:List D} {n i:Nat} {ds:List D} {Q:D→Prop} {δ:Loc} (fd:Fd) (h:G[i]? = some fd) (hl:ds.length = fd.ps.length) (hf:fd.hf = true) (he:entry true (fd.ps++fd.loc).length ds = some δ) (q:wSs ⟨PP.run G gl n,gl,hfs G⟩ fd.body δ (retS Q)):wRun G gl (n+1) i ds Q:=by
 obtain ⟨o,e,q⟩:=q
 unfold wRun
 have:PP.run G gl (n+1) i ds = outD (evSs ⟨PP.run G gl n,gl,hfs G⟩ fd.body δ):=by
  conv=>lhs;unfold PP.run
  rw [h]
  dsimp only
  rw [if_pos hl,hf,he]
 rw [this,e]
 cases o with
 | rt d δ=>exact ⟨d,rfl,q⟩
 | ro d δ=>exact ⟨.lst d,rfl,q⟩
 | nx δ=>exact ⟨.non,rfl,q⟩
 | bk δ=>exact q.elim
 | ct δ=>exact q.elim
def WC:=And.intro (@wE_callv) (And.intro (@wE_callF) (And.intro (@wS_retL) (And.intro (@wFnc_succ) (And.intro (@wFnc_fnc) (And.intro (@wCaps_nil) (@wCaps_cons))))))
end PP
end
section
namespace PP
open PySem
section
variable {cx:Cl} {δ:Loc}
end
end PP
end
section
namespace PP
open PySem SetTable
def lp (m:Nat) (x:Nat × Nat):Probe:={ j:=x.1,more:=runEnd m x.1 - x.1,i:=x.1,perturb:=x.2,dummy:=none }
def adv (m:Nat) (p:Probe):Probe:=if p.more > 0 then { p with j:=p.j+1,more:=p.more - 1 } else
 { p with j:=(leap m p.i p.perturb).1,more:=runEnd m (leap m p.i p.perturb).1 - (leap m p.i p.perturb).1,i:=(leap m p.i p.perturb).1,perturb:=(leap m p.i p.perturb).2 }
theorem adv_eq (t:SetTable) (p:Probe):t.advance p = adv t.mask p:=rfl
def sq (m:Nat) (h:Int):Nat→Probe
 | 0=>lp m (bits h % (m+1),bits h)
 | n+1=>adv m (sq m h n)
abbrev ps (m:Nat) (h:Int) (n:Nat):Nat:=(sq m h n).j
def itA (m:Nat):Nat→Probe→Probe
 | 0,p=>p
 | k+1,p=>itA m k (adv m p)
theorem itA_succ (m:Nat):∀ (k:Nat) (p:Probe),itA m (k+1) p = adv m (itA m k p)
 | 0,p=>rfl
 | k+1,p=>itA_succ m k (adv m p)
theorem sq_add (m:Nat) (h:Int) (n:Nat):∀ k,sq m h (n+k) = itA m k (sq m h n)
 | 0=>rfl
 | k+1=>by rw [itA_succ,← sq_add m h n k];rfl
theorem itA_add (m:Nat):∀ (a b:Nat) (p:Probe),itA m (a+b) p = itA m b (itA m a p)
 | 0,b,p=>by rw [Nat.zero_add];rfl
 | a+1,b,p=>by rw [Nat.add_right_comm];exact itA_add m a b (adv m p)
theorem runEnd_le {m i:Nat} (h:i≤m):runEnd m i≤m:=by unfold runEnd;split<;>omega
theorem runEnd_9 (m i:Nat):runEnd m i - i≤9:=by unfold runEnd;split<;>omega
theorem runEnd_ge (m i:Nat):i≤runEnd m i:=by unfold runEnd;split<;>omega
structure Pok (m:Nat) (p:Probe):Prop where
 i:p.i≤m
 m:p.j+p.more = runEnd m p.i
 n:p.more≤9
 q:p.perturb < 2 ^ 64
 d:p.dummy = none
theorem Pok.j {m:Nat} {p:Probe} (h:Pok m p):p.j≤m:=by have:=runEnd_le h.i;have:=h.m;omega
theorem lp_ok {m:Nat} {x:Nat × Nat} (h:x.1≤m) (q:x.2 < 2 ^ 64):Pok m (lp m x):=⟨h,by show x.1+(runEnd m x.1 - x.1) = runEnd m x.1;have:=runEnd_ge m x.1;omega,runEnd_9 _ _,q,rfl⟩
theorem leap_ok {m i q:Nat} (hq:q < 2 ^ 64):(leap m i q).1≤m∧(leap m i q).2 < 2 ^ 64:=by
 unfold leap
 exact ⟨Nat.le_of_lt_succ (Nat.mod_lt _ (Nat.succ_pos _)),Nat.lt_of_le_of_lt (Nat.div_le_self _ _) hq⟩
theorem adv_ok {m:Nat} {p:Probe} (h:Pok m p):Pok m (adv m p):=by
 unfold adv
 split
 · exact ⟨h.i,by have:=h.m;show p.j+1+(p.more - 1) = runEnd m p.i;omega,by have:=h.n;show p.more - 1≤9;omega,h.q,h.d⟩
 · have:=leap_ok (m:=m) (i:=p.i) h.q
   have:=lp_ok this.1 this.2
   exact ⟨this.i,this.m,this.n,this.q,h.d⟩
theorem bits_lt (h:Int):bits h < 2 ^ 64:=by
 unfold bits
 have h1:=Int.emod_nonneg h (show (2 ^ 64:Int)≠0 by decide)
 have h2:=Int.emod_lt_of_pos h (show (0:Int) < 2 ^ 64 by decide)
 omega
theorem sq_ok (m:Nat) (h:Int):∀ n,Pok m (sq m h n)
 | 0=>lp_ok (Nat.le_of_lt_succ (Nat.mod_lt _ (Nat.succ_pos _))) (bits_lt h)
 | n+1=>adv_ok (sq_ok m h n)
theorem run_more (m:Nat):∀ (r:Nat) (p:Probe),p.more = r→p.dummy = none→itA m (r+1) p = lp m (leap m p.i p.perturb)
 | 0,p,h,d=>by
   show adv m p = _
   unfold adv lp
   rw [if_neg (by omega),d]
 | r+1,p,h,d=>by
   show itA m (r+1) (adv m p) = _
   unfold adv
   rw [if_pos (by omega)]
   exact run_more m r _ (by show p.more - 1 = r;omega) d
def lpit (m:Nat):Nat→Nat × Nat→Nat × Nat
 | 0,x=>x
 | k+1,x=>lpit m k (leap m x.1 x.2)
theorem lpit_add (m:Nat):∀ (a b:Nat) (x:Nat × Nat),lpit m (a+b) x = lpit m b (lpit m a x)
 | 0,b,x=>by rw [Nat.zero_add];rfl
 | a+1,b,x=>by rw [Nat.add_right_comm];exact lpit_add m a b _
theorem leaps (m:Nat):∀ (k:Nat) (x:Nat × Nat),∃ s,s≤10 * k∧itA m s (lp m x) = lp m (lpit m k x)
 | 0,x=>⟨0,by omega,rfl⟩
 | k+1,x=>by
   obtain ⟨s,h1,h2⟩:=leaps m k (leap m x.1 x.2)
   have h9:=runEnd_9 m x.1
   refine ⟨(runEnd m x.1 - x.1+1)+s,by omega,?_⟩
   rw [itA_add,run_more m (runEnd m x.1 - x.1) (lp m x) rfl rfl]
   exact h2
theorem lpit_q (m:Nat):∀ (k:Nat) (x:Nat × Nat),(lpit m k x).2 = x.2 / 32 ^ k
 | 0,x=>by simp [lpit]
 | k+1,x=>by
   show (lpit m k (leap m x.1 x.2)).2 = _
   rw [lpit_q m k]
   show x.2 / 32 / 32 ^ k = _
   rw [Nat.div_div_eq_div_mul,Nat.pow_succ,Nat.mul_comm]
theorem lpit_i (m:Nat):∀ (k:Nat) (x:Nat × Nat),x.1≤m→(lpit m k x).1≤m
 | 0,x,h=>h
 | k+1,x,h=>lpit_i m k _ (Nat.le_of_lt_succ (Nat.mod_lt _ (Nat.succ_pos _)))
def fit (m:Nat):Nat→Nat→Nat
 | 0,i=>i
 | c+1,i=>fit m c ((i * 5+1) % (m+1))
theorem fit_add (m:Nat):∀ (a b i:Nat),fit m (a+b) i = fit m b (fit m a i)
 | 0,b,i=>by rw [Nat.zero_add];rfl
 | a+1,b,i=>by rw [Nat.add_right_comm];exact fit_add m a b _
theorem lpit_0 (m:Nat):∀ (k i:Nat),lpit m k (i,0) = (fit m k i,0)
 | 0,i=>rfl
 | k+1,i=>by
   show lpit m k (leap m i 0) = _
   unfold leap
   exact lpit_0 m k _
def mk (m:Nat):Prop:=m = 7∨m = 31∨m = 127
theorem fit_all {m:Nat} (h:mk m):fit m (m+1) 0 = 0∧∀ T,T < m+1→∃ c,c < m+1∧fit m c 0 = T:=by
 rcases h with rfl | rfl | rfl<;>exact ⟨by decide +kernel,by decide +kernel⟩
theorem fit_from {m:Nat} (h:mk m) {i T:Nat} (hi:i≤m) (hT:T≤m):∃ c,c≤m∧fit m c i = T:=by
 obtain ⟨h0,ha⟩:=fit_all h
 obtain ⟨a,a1,rfl⟩:=ha i (by omega)
 obtain ⟨b,b1,rfl⟩:=ha T (by omega)
 by_cases hab:a≤b
 · exact ⟨b - a,by omega,by rw [← fit_add];congr 1;omega⟩
 · refine ⟨(m+1 - a)+b,by omega,?_⟩
   rw [← fit_add,show a+(m+1 - a+b) = (m+1)+b by omega,fit_add,h0]
theorem lpit_from {m:Nat} (h:mk m) {x:Nat × Nat} (hi:x.1≤m) (hq:x.2 < 2 ^ 64) {T:Nat} (hT:T≤m):∃ c,c≤m+13∧(lpit m c x).1 = T:=by
 have q0:(lpit m 13 x).2 = 0:=by
  rw [lpit_q]
  exact Nat.div_eq_of_lt (Nat.lt_of_lt_of_le hq (by decide))
 obtain ⟨c,c1,e⟩:=fit_from h (lpit_i m 13 x hi) hT
 refine ⟨13+c,by omega,?_⟩
 rw [lpit_add,show lpit m 13 x = ((lpit m 13 x).1,0) by rw [← q0],lpit_0]
 exact e
theorem cov {m:Nat} (hm:mk m) (h:Int) (n:Nat) {T:Nat} (hT:T≤m):∃ N,n≤N∧N < n+10 * turns m∧ps m h N = T:=by
 have ok:=sq_ok m h n
 have lo:=leap_ok (m:=m) (i:=(sq m h n).i) ok.q
 obtain ⟨c,c1,e⟩:=lpit_from hm lo.1 lo.2 hT
 obtain ⟨s,s1,e2⟩:=leaps m c (leap m (sq m h n).i (sq m h n).perturb)
 have hn:=ok.n
 refine ⟨n+((sq m h n).more+1+s),by omega,by unfold turns;omega,?_⟩
 show (sq m h _).j = T
 rw [sq_add,itA_add,run_more m _ _ rfl ok.d,e2]
 exact e
end PP
end
section
namespace PP
open PySem SetTable
theorem below_go (xs:Array Nat) (hs:xs.toList.Pairwise (· < ·)) (j:Nat):∀ (f lo hi:Nat),hi - lo≤f→lo≤hi→hi≤xs.size→(∀ i (h:i < xs.size),i < lo→xs[i] < j)→(∀ i (h:i < xs.size),hi≤i→j≤xs[i]) →
 below.go xs j f lo hi≤xs.size∧(∀ i (h:i < xs.size),i < below.go xs j f lo hi→xs[i] < j)∧∀ i (h:i < xs.size),below.go xs j f lo hi≤i→j≤xs[i]
 | 0,lo,hi,h1,h2,h3,h4,h5=>by
   have:hi = lo:=by omega
   subst this
   exact ⟨h3,h4,h5⟩
 | f+1,lo,hi,h1,h2,h3,h4,h5=>by
   have pw:=List.pairwise_iff_getElem.mp hs
   unfold below.go
   by_cases hl:lo < hi
   · rw [if_pos hl]
     dsimp only
     have hm:(lo+hi) / 2 < xs.size:=by omega
     have e:xs.getD ((lo+hi) / 2) j = xs[(lo+hi) / 2]:=by simp [Array.getD,hm]
     rw [e]
     by_cases hc:xs[(lo+hi) / 2] < j
     · rw [if_pos hc]
       refine below_go xs hs j f _ hi (by omega) (by omega) h3 (fun i h hi'=>?_) h5
       rcases Nat.lt_or_ge i ((lo+hi) / 2) with z | z
       · have:=pw i ((lo+hi) / 2) (by simpa using h) (by simpa using hm) z
         simp at this
         omega
       · have:i = (lo+hi) / 2:=by omega
         subst this;exact hc
     · rw [if_neg hc]
       refine below_go xs hs j f lo _ (by omega) (by omega) (by omega) h4 fun i h hi'=>?_
       rcases Nat.lt_or_ge ((lo+hi) / 2) i with z | z
       · have:=pw ((lo+hi) / 2) i (by simpa using hm) (by simpa using h) z
         simp at this
         omega
       · have:i = (lo+hi) / 2:=by omega
         subst this;omega
   · rw [if_neg hl]
     exact ⟨by omega,h4,fun i h hi'=>h5 i h (by omega)⟩
theorem below_spec (xs:Array Nat) (hs:xs.toList.Pairwise (· < ·)) (j:Nat):below xs j≤xs.size∧(∀ i (h:i < xs.size),i < below xs j→xs[i] < j)∧∀ i (h:i < xs.size),below xs j≤i→j≤xs[i] :=
 below_go xs hs j xs.size 0 xs.size (by omega) (by omega) (by omega) (fun i h z=>by omega) fun i h z=>by omega
theorem below_at {xs:Array Nat} (hs:xs.toList.Pairwise (· < ·)) {i j:Nat} (h:xs[i]? = some j):below xs j = i:=by
 obtain ⟨hi,e⟩:=Array.getElem?_eq_some_iff.mp h
 obtain ⟨b1,b2,b3⟩:=below_spec xs hs j
 have pw:=List.pairwise_iff_getElem.mp hs
 rcases Nat.lt_trichotomy (below xs j) i with z | z | z
 · have q:=b3 (below xs j) (by omega) (Nat.le_refl _)
   have:=pw (below xs j) i (by simp;omega) (by simpa using hi) z
   simp at this
   omega
 · exact z
 · have:=b2 i hi z
   omega
structure TbI (t:SetTable) (hs:List Int):Prop where
 mok:mk t.mask
 dm:t.dummies = #[]
 srt:t.place.toList.Pairwise (· < ·)
 le:∀ j∈t.place.toList,j≤t.mask
 len:t.place.toList.length = hs.length
 few:hs.length≤t.mask
 rch:∀ (i j:Nat) (h:Int),t.place.toList[i]? = some j→hs[i]? = some h→∃ n,ps t.mask h n = j∧∀ k < n,ps t.mask h k∈t.place.toList
variable {t:SetTable} {hs:List Int}
theorem TbI.live (T:TbI t hs) {i j:Nat} (h:t.place.toList[i]? = some j):t.slot j = .live i:=by
 have h':t.place[i]? = some j:=by simpa using h
 unfold slot
 rw [below_at T.srt h']
 simp [h']
theorem TbI.empty (T:TbI t hs) {j:Nat} (h:j∉t.place.toList):t.slot j = .empty:=by
 unfold slot
 have:t.place[below t.place j]?≠some j:=fun e=>h (by
  have:=Array.mem_of_getElem? e
  exact Array.mem_toList_iff.mpr this)
 dsimp only
 rw [if_neg (by simpa using this),T.dm]
 rfl
theorem free_place {P:List Nat} {m:Nat} (hl:P.length≤m):∃ j,j≤m∧j∉P:=by
 apply Classical.byContradiction
 intro hn
 have hall:∀ j∈List.range (m+1),j∈P:=fun j hj=>by
  apply Classical.byContradiction
  intro hp
  exact hn ⟨j,by simpa using Nat.le_of_lt_succ (by simpa using hj),hp⟩
 have key:∀ (l:List Nat) (P:List Nat),l.Nodup→(∀ x∈l,x∈P)→l.length≤P.length:=fun l=>by
  induction l with
  | nil=>intro P _ _;exact Nat.zero_le _
  | cons x l ih =>
    intro P hnd hs
    have hx:=hs x List.mem_cons_self
    rw [List.nodup_cons] at hnd
    have:=ih (P.erase x) hnd.2 fun y hy=>(List.mem_erase_of_ne (fun e:y = x=>hnd.1 (by rw [← e];exact hy))).mpr (hs y (List.mem_cons_of_mem _ hy))
    rw [List.length_erase_of_mem hx] at this
    have:=List.length_pos_of_mem hx
    simp only [List.length_cons]
    omega
 have:=key _ P List.nodup_range hall
 rw [List.length_range] at this
 omega
theorem TbI.room (T:TbI t hs) (h:Int) (n:Nat):∃ N,n≤N∧N < n+10 * turns t.mask∧ps t.mask h N∉t.place.toList:=by
 obtain ⟨j,h1,h2⟩:=free_place (P:=t.place.toList) (m:=t.mask) (by rw [T.len];exact T.few)
 obtain ⟨N,a,b,rfl⟩:=cov T.mok h n h1
 exact ⟨N,a,b,h2⟩
inductive PR (t:SetTable) (hs:List Int) (h:Int) (n:Nat):Met→Prop
 | empty (N:Nat) (a:n≤N) (b:ps t.mask h N∉t.place.toList) (c:∀ k,n≤k→k < N→ps t.mask h k∈t.place.toList∧∀ (i:Nat),t.place.toList[i]? = some (ps t.mask h k)→hs[i]?≠some h):PR t hs h n (.empty (ps t.mask h N) none)
 | cand (N i:Nat) (a:n≤N) (b:t.place.toList[i]? = some (ps t.mask h N)) (d:hs[i]? = some h) (c:∀ k,n≤k→k < N→ps t.mask h k∈t.place.toList∧∀ (i:Nat),t.place.toList[i]? = some (ps t.mask h k)→hs[i]?≠some h):PR t hs h n (.candidate (ps t.mask h N) i (sq t.mask h (N+1)))
theorem probe_go (T:TbI t hs) (h:Int) {ha:Nat→Int} (hh:∀ i g,hs[i]? = some g→ha i = g):∀ (f n:Nat),(∃ N,n≤N∧N < n+f∧ps t.mask h N∉t.place.toList)→∃ r,probe.go t ha h f (sq t.mask h n) = some r∧PR t hs h n r
 | 0,n,⟨N,a,b,_⟩=>by omega
 | f+1,n,⟨N,a,b,c⟩=>by
   unfold probe.go
   by_cases hp:ps t.mask h n∈t.place.toList
   · obtain ⟨i,hi⟩:=List.getElem?_of_mem hp
     have hil:i < hs.length:=by
      have:=(List.getElem?_eq_some_iff.mp hi).1
      rw [T.len] at this
      exact this
     have eg:hs[i]? = some hs[i]:=List.getElem?_eq_getElem hil
     rw [T.live hi]
     dsimp only
     rw [hh i _ eg]
     by_cases hc:hs[i] = h
     · rw [if_pos (by rw [hc];exact beq_self_eq_true h)]
       refine ⟨_,rfl,?_⟩
       rw [adv_eq]
       exact .cand n i (Nat.le_refl _) hi (by rw [eg,hc]) fun k h1 h2=>by omega
     · rw [if_neg (by simpa using hc),adv_eq]
       have hN:n≠N:=fun e=>c (by rw [← e];exact hp)
       obtain ⟨r,e,pr⟩:=probe_go T h hh f (n+1) ⟨N,by omega,by omega,c⟩
       refine ⟨r,e,?_⟩
       have first:∀ k,n = k→ps t.mask h k∈t.place.toList∧∀ (i':Nat),t.place.toList[i']? = some (ps t.mask h k)→hs[i']?≠some h:=by
        rintro _ rfl
        refine ⟨hp,fun i' hi'=>?_⟩
        have:t.slot (ps t.mask h n) = .live i':=T.live hi'
        rw [T.live hi] at this
        cases this
        rw [eg]
        intro z
        exact hc (Option.some.inj z)
       cases pr with
       | empty N' a b c'=>exact .empty N' (by omega) b fun k h1 h2=>if z:n = k then first k z else c' k (by omega) h2
       | cand N' i' a b d c'=>exact .cand N' i' (by omega) b d fun k h1 h2=>if z:n = k then first k z else c' k (by omega) h2
   · rw [T.empty hp]
     refine ⟨_,rfl,?_⟩
     rw [(sq_ok t.mask h n).d]
     exact .empty n (Nat.le_refl _) hp fun k h1 h2=>by omega
theorem probe_ok (T:TbI t hs) (h:Int) {ha:Nat→Int} (hh:∀ i g,hs[i]? = some g→ha i = g) (n:Nat):∃ r,t.probe ha h (sq t.mask h n) = some r∧PR t hs h n r:=probe_go T h hh _ n (T.room h n)
end PP
end
section
namespace PP
open PySem SetTable
variable {t:SetTable} {hs:List Int}
def insL {α:Type} (l:List α) (p:Nat) (x:α):List α:=l.take p++x::l.drop p
theorem insL_get {α:Type} {l:List α} {p i:Nat} {x y:α} (hp:p≤l.length) (h:(insL l p x)[i]? = some y):(i < p∧l[i]? = some y)∨(i = p∧y = x)∨(p < i∧l[i - 1]? = some y):=by
 unfold insL at h
 rcases Nat.lt_trichotomy i p with z | z | z
 · rw [List.getElem?_append_left (by rw [List.length_take];omega),List.getElem?_take_of_lt z] at h
   exact .inl ⟨z,h⟩
 · subst z
   rw [List.getElem?_append_right (by rw [List.length_take];omega),List.length_take,Nat.min_eq_left hp,Nat.sub_self] at h
   exact .inr (.inl ⟨rfl,by simpa using h.symm⟩)
 · rw [List.getElem?_append_right (by rw [List.length_take];omega),List.length_take,Nat.min_eq_left hp] at h
   obtain ⟨k,rfl⟩:∃ k,i = p+1+k:=⟨i - p - 1,by omega⟩
   rw [show p+1+k - p = k+1 by omega,List.getElem?_cons_succ,List.getElem?_drop] at h
   exact .inr (.inr ⟨z,by rw [show p+1+k - 1 = p+k by omega];exact h⟩)
theorem insL_mem {α:Type} {l:List α} {p:Nat} {x y:α}:y∈insL l p x↔y∈l∨y = x:=by
 unfold insL
 rw [List.mem_append,List.mem_cons]
 conv=>rhs;rw [← List.take_append_drop p l,List.mem_append]
 constructor
 · rintro (h | h | h)
   · exact .inl (.inl h)
   · exact .inr h
   · exact .inl (.inr h)
 · rintro ((h | h) | h)
   · exact .inl h
   · exact .inr (.inr h)
   · exact .inr (.inl h)
theorem insL_len {α:Type} (l:List α) (p:Nat) (x:α):(insL l p x).length = l.length+1:=by
 unfold insL
 rw [List.length_append,List.length_cons,List.length_take,List.length_drop]
 omega
theorem TbI.put (T:TbI t hs) {h:Int} {N:Nat} (hf:ps t.mask h N∉t.place.toList) (hr:∀ k < N,ps t.mask h k∈t.place.toList) (fw:hs.length+1≤t.mask) :
 TbI (t.put (ps t.mask h N)).1 (insL hs (t.put (ps t.mask h N)).2 h)∧(t.put (ps t.mask h N)).2≤hs.length∧(t.put (ps t.mask h N)).1.led = t.led∧(t.put (ps t.mask h N)).1.plain = t.plain∧(t.put (ps t.mask h N)).1.mask = t.mask:=by
 generalize hj:ps t.mask h N = j at *
 have pl:(insertAt t.place (below t.place j) j).toList = insL t.place.toList (below t.place j) j:=toList_insertAt _ _ _
 have dm:(if has t.dummies j = true then eraseAt t.dummies (below t.dummies j) else t.dummies) = #[]:=by rw [T.dm];rfl
 obtain ⟨b1,b2,b3⟩:=below_spec t.place T.srt j
 have bl:below t.place j≤t.place.toList.length:=by simpa using b1
 have len:=T.len
 refine ⟨⟨T.mok,dm,?_,?_,?_,?_,?_⟩,by rw [← len];exact bl,rfl,rfl,rfl⟩
 · show (insertAt t.place (below t.place j) j).toList.Pairwise _
   rw [pl]
   unfold insL
   have pw:=T.srt
   rw [← List.take_append_drop (below t.place j) t.place.toList,List.pairwise_append] at pw
   obtain ⟨p1,p2,p3⟩:=pw
   refine List.pairwise_append.mpr ⟨p1,List.pairwise_cons.mpr ⟨fun y hy=>?_,p2⟩,fun x hx y hy=>?_⟩
   · obtain ⟨k,hk,e⟩:=List.mem_iff_getElem.mp hy
     rw [List.length_drop] at hk
     rw [List.getElem_drop] at e
     have:=b3 (below t.place j+k) (by simp at hk;omega) (by omega)
     have ne:j≠y:=fun z=>hf (by rw [z];exact List.mem_of_mem_drop hy)
     simp at e
     omega
   · obtain ⟨k,hk,e⟩:=List.mem_iff_getElem.mp hx
     rw [List.length_take] at hk
     rw [List.getElem_take] at e
     have:=b2 k (by simp at hk;omega) (by omega)
     simp at e
     rcases List.mem_cons.mp hy with z | z
     · omega
     · exact p3 x hx y z
 · show ∀ y∈(insertAt t.place (below t.place j) j).toList,_
   rw [pl]
   intro y hy
   rcases insL_mem.mp hy with z | z
   · exact T.le y z
   · rw [z,← hj];exact (sq_ok t.mask h N).j
 · show (insertAt t.place (below t.place j) j).toList.length = _
   rw [pl,insL_len,insL_len,len]
 · rw [insL_len];exact fw
 · show ∀ (i j':Nat) (h':Int),(insertAt t.place (below t.place j) j).toList[i]? = some j'→(insL hs (below t.place j) h)[i]? = some h'→∃ n,ps t.mask h' n = j'∧∀ k < n,ps t.mask h' k∈(insertAt t.place (below t.place j) j).toList
   rw [pl]
   intro i j' h' e1 e2
   have old:∀ i',t.place.toList[i']? = some j'→hs[i']? = some h'→∃ n,ps t.mask h' n = j'∧∀ k < n,ps t.mask h' k∈insL t.place.toList (below t.place j) j:=fun i' a b=>by
    obtain ⟨n,n1,n2⟩:=T.rch i' j' h' a b
    exact ⟨n,n1,fun k hk=>insL_mem.mpr (.inl (n2 k hk))⟩
   rcases insL_get bl e1 with ⟨z,a⟩ | ⟨z,a⟩ | ⟨z,a⟩
   · rcases insL_get (by rw [← len];exact bl) e2 with ⟨_,b⟩ | ⟨z',b⟩ | ⟨z',b⟩
     · exact old i a b
     · omega
     · omega
   · rcases insL_get (by rw [← len];exact bl) e2 with ⟨z',b⟩ | ⟨z',b⟩ | ⟨z',b⟩
     · omega
     · subst a b
       exact ⟨N,hj,fun k hk=>insL_mem.mpr (.inl (hr k hk))⟩
     · omega
   · rcases insL_get (by rw [← len];exact bl) e2 with ⟨z',b⟩ | ⟨z',b⟩ | ⟨_,b⟩
     · omega
     · omega
     · exact old (i - 1) a b
end PP
end
section
namespace PP
open PySem SetTable
structure OW (m:Nat) (owner:Array (Option Nat)) (pre:List Int) (js:List Nat):Prop where
 sz:owner.size = m+1
 jl:js.length = pre.length
 own:∀ k j:Nat,js[k]? = some j→owner[j]? = some (some k)
 inv:∀ j k:Nat,owner[j]? = some (some k)→js[k]? = some j
 rch:∀ (i j:Nat) (h:Int),pre[i]? = some h→js[i]? = some j→∃ n,ps m h n = j∧∀ k < n,ps m h k∈js
theorem lp_run (m:Nat):∀ (k:Nat) (p:Probe),k≤p.more→(itA m k p).j = p.j+k
 | 0,p,_=>rfl
 | k+1,p,h=>by
   show (itA m k (adv m p)).j = _
   unfold adv
   rw [if_pos (by omega),lp_run m k _ (by show k≤p.more - 1;omega)]
   show p.j+1+k = _
   omega
theorem free_ok {m:Nat} {owner:Array (Option Nat)} (hz:owner.size = m+1) (h:Int):∀ (f n:Nat) (x:Nat × Nat),sq m h n = lp m x→x.1≤m→(∃ c,c < f∧owner[(lpit m c x).1]? = some none) →
 ∃ N,n≤N∧layClean.free m owner f x.1 x.2 = some (ps m h N)∧owner[ps m h N]? = some none∧∀ k,n≤k→k < N→∃ v,owner[ps m h k]? = some (some v)
 | 0,n,x,e,hx,⟨c,h1,_⟩=>by omega
 | f+1,n,x,e,hx,⟨c,h1,h2⟩=>by
   have rl:=runEnd_le hx
   have rg:=runEnd_ge m x.1
   have pos:∀ k,k < runEnd m x.1+1 - x.1→ps m h (n+k) = x.1+k:=fun k hk=>by
    show (sq m h (n+k)).j = _
    rw [sq_add,e,lp_run m k _ (by show k≤runEnd m x.1 - x.1;omega)]
    rfl
   have val:∀ k,k < runEnd m x.1+1 - x.1→owner[x.1+k]? = some (owner.getD (x.1+k) (some 0)):=fun k hk=>by
    have:x.1+k < owner.size:=by omega
    simp [Array.getD,this]
   unfold layClean.free
   cases q:(List.range (runEnd m x.1+1 - x.1)).find? fun k=>(owner.getD (x.1+k) (some 0)).isNone with
   | some k =>
     rw [List.find?_range_eq_some] at q
     obtain ⟨q1,q2,q3⟩:=q
     have hk:k < runEnd m x.1+1 - x.1:=by simpa using q2
     refine ⟨n+k,by omega,by rw [pos k hk],?_,fun k' h1 h2=>?_⟩
     · rw [pos k hk,val k hk,Option.isNone_iff_eq_none.mp q1]
     · obtain ⟨d,rfl⟩:∃ d,k' = n+d:=⟨k' - n,by omega⟩
       have:=q3 d (by omega)
       rw [pos d (by omega),val d (by omega)]
       cases z:owner.getD (x.1+d) (some 0) with
       | none=>rw [z] at this;cases this
       | some v=>exact ⟨v,rfl⟩
   | none =>
     rw [List.find?_eq_none] at q
     have occ:∀ k,k < runEnd m x.1+1 - x.1→∃ v,owner[x.1+k]? = some (some v):=fun k hk=>by
      have:=q k (by simpa using hk)
      rw [val k hk]
      cases z:owner.getD (x.1+k) (some 0) with
      | none=>rw [z] at this;exact absurd rfl this
      | some v=>exact ⟨v,rfl⟩
     have nxt:sq m h (n+(runEnd m x.1 - x.1+1)) = lp m (leap m x.1 x.2):=by
      rw [sq_add,e]
      exact run_more m _ (lp m x) rfl rfl
     cases c with
     | zero =>
       obtain ⟨v,hv⟩:=occ 0 (by omega)
       rw [show (lpit m 0 x).1 = x.1+0 from rfl,hv] at h2
       cases h2
     | succ c =>
       obtain ⟨N,a1,a2,a3,a4⟩:=free_ok hz h f (n+(runEnd m x.1 - x.1+1)) (leap m x.1 x.2) nxt (Nat.le_of_lt_succ (Nat.mod_lt _ (Nat.succ_pos _))) ⟨c,by omega,h2⟩
       refine ⟨N,by omega,a2,a3,fun k h1 h2=>?_⟩
       by_cases hk:k < n+(runEnd m x.1 - x.1+1)
       · obtain ⟨d,rfl⟩:∃ d,k = n+d:=⟨k - n,by omega⟩
         rw [pos d (by omega)]
         exact occ d (by omega)
       · exact a4 k (by omega) h2
def layF (m:Nat) (acc:Option (Array (Option Nat) × Nat)) (h:Int):Option (Array (Option Nat) × Nat):=do
 let (owner,k) ← acc
 let j ← layClean.free m owner (turns m) (bits h % (m+1)) (bits h)
 pure (owner.setIfInBounds j (some k),k+1)
theorem OW.js_le {m:Nat} {owner:Array (Option Nat)} {pre:List Int} {js:List Nat} (W:OW m owner pre js) {j:Nat} (h:j∈js):j≤m:=by
 obtain ⟨k,hk⟩:=List.getElem?_of_mem h
 have:=(Array.getElem?_eq_some_iff.mp (W.own k j hk)).1
 rw [W.sz] at this
 omega
theorem OW.occ {m:Nat} {owner:Array (Option Nat)} {pre:List Int} {js:List Nat} (W:OW m owner pre js) {j:Nat}:(∃ v,owner[j]? = some (some v))↔j∈js :=
 ⟨fun ⟨v,hv⟩=>List.mem_of_getElem? (W.inv j v hv),fun h=>by
   obtain ⟨k,hk⟩:=List.getElem?_of_mem h
   exact ⟨k,W.own k j hk⟩⟩
theorem lay_step {m:Nat} (hm:mk m) {owner:Array (Option Nat)} {pre:List Int} {js:List Nat} (W:OW m owner pre js) (hl:pre.length≤m) (h:Int):∃ owner' js',layF m (some (owner,pre.length)) h = some (owner',pre.length+1)∧OW m owner' (pre++[h]) js':=by
 obtain ⟨T,hT,hn⟩:=free_place (P:=js) (m:=m) (by rw [W.jl];exact hl)
 have hx:(bits h % (m+1),bits h).1≤m:=Nat.le_of_lt_succ (Nat.mod_lt _ (Nat.succ_pos _))
 obtain ⟨c,c1,c2⟩:=lpit_from hm hx (bits_lt h) hT
 have fr:owner[T]? = some none:=by
  have:T < owner.size:=by rw [W.sz];omega
  cases q:owner[T] with
  | none=>rw [Array.getElem?_eq_getElem this,q]
  | some v=>exact absurd (W.occ.mp ⟨v,by rw [Array.getElem?_eq_getElem this,q]⟩) hn
 obtain ⟨N,_,e,free,occ⟩:=free_ok W.sz h (turns m) 0 (bits h % (m+1),bits h) rfl hx ⟨c,by unfold turns;omega,by rw [c2];exact fr⟩
 have hj:=(Array.getElem?_eq_some_iff.mp free).1
 refine ⟨owner.setIfInBounds (ps m h N) (some pre.length),js++[ps m h N],?_,⟨?_,?_,fun k j hk=>?_,fun j k hk=>?_,fun i j h' h1 h2=>?_⟩⟩
 · show (Option.bind (layClean.free m owner (turns m) (bits h % (m+1)) (bits h)) fun j=>some (owner.setIfInBounds j (some pre.length),pre.length+1)) = _
   rw [e]
   rfl
 · rw [Array.size_setIfInBounds,W.sz]
 · rw [List.length_append,List.length_append,W.jl];rfl
 · rcases Nat.lt_or_ge k js.length with z | z
   · rw [List.getElem?_append_left z] at hk
     have ho:=W.own k j hk
     rw [Array.getElem?_setIfInBounds_ne (fun e=>by rw [e,ho] at free;cases free)]
     exact ho
   · rw [List.getElem?_append_right z] at hk
     have k0:k - js.length = 0:=by
      rcases Nat.eq_zero_or_pos (k - js.length) with q | q
      · exact q
      · rw [List.getElem?_eq_none (by simp;omega)] at hk;cases hk
     rw [k0] at hk
     have:ps m h N = j:=by simpa using hk
     rw [← this,Array.getElem?_setIfInBounds_self_of_lt hj,show k = pre.length by have:=W.jl;omega]
 · by_cases z:ps m h N = j
   · rw [← z,Array.getElem?_setIfInBounds_self_of_lt hj] at hk
     have:pre.length = k:=Option.some.inj (Option.some.inj hk)
     rw [← this,← W.jl,← z]
     simp
   · rw [Array.getElem?_setIfInBounds_ne z] at hk
     have:=W.inv j k hk
     rw [List.getElem?_append_left (List.getElem?_eq_some_iff.mp this).1]
     exact this
 · rcases Nat.lt_or_ge i pre.length with z | z
   · rw [List.getElem?_append_left z] at h1
     rw [List.getElem?_append_left (by rw [W.jl];exact z)] at h2
     obtain ⟨n,n1,n2⟩:=W.rch i j h' h1 h2
     exact ⟨n,n1,fun k hk=>List.mem_append_left _ (n2 k hk)⟩
   · rw [List.getElem?_append_right z] at h1
     rw [List.getElem?_append_right (by rw [W.jl];exact z),W.jl] at h2
     have k0:i - pre.length = 0:=by
      rcases Nat.eq_zero_or_pos (i - pre.length) with q | q
      · exact q
      · rw [List.getElem?_eq_none (by simp;omega)] at h1;cases h1
     rw [k0] at h1 h2
     have a:h = h':=by simpa using h1
     have b:ps m h N = j:=by simpa using h2
     subst a b
     exact ⟨N,rfl,fun k hk=>List.mem_append_left _ (W.occ.mp (occ k (Nat.zero_le _) hk))⟩
theorem lay_all {m:Nat} (hm:mk m):∀ (rest pre:List Int) (owner:Array (Option Nat)) (js:List Nat),OW m owner pre js→(pre++rest).length≤m→∃ owner' js',rest.foldl (layF m) (some (owner,pre.length)) = some (owner',(pre++rest).length)∧OW m owner' (pre++rest) js'
 | [],pre,owner,js,W,_=>⟨owner,js,by rw [List.append_nil];rfl,by rw [List.append_nil];exact W⟩
 | h::rest,pre,owner,js,W,hl=>by
   obtain ⟨o1,j1,e1,W1⟩:=lay_step hm W (by rw [List.length_append] at hl;omega) h
   have e:pre++h::rest = (pre++[h])++rest:=by simp
   rw [e] at hl ⊢
   obtain ⟨o2,j2,e2,W2⟩:=lay_all hm rest (pre++[h]) o1 j1 W1 hl
   refine ⟨o2,j2,?_,W2⟩
   rw [List.foldl_cons,e1]
   rw [List.length_append,List.length_singleton] at e2
   exact e2
theorem fm_get {α β:Type} {f:α→Option β}:∀ {l:List α},(∀ k∈l,(f k).isSome = true)→∀ i:Nat,(l.filterMap f)[i]? = (l[i]?).bind f
 | [],_,i=>by simp
 | x::l,h,i=>by
   obtain ⟨y,hy⟩:=Option.isSome_iff_exists.mp (h x List.mem_cons_self)
   rw [List.filterMap_cons_some hy]
   cases i with
   | zero=>simp [hy]
   | succ i=>simpa using fm_get (fun k hk=>h k (List.mem_cons_of_mem _ hk)) i
theorem laid_ok {m:Nat} (hm:mk m) (fg mv:Nat) (led pn:Bool) (hs:Array Int) (hl:hs.size≤m):∃ t order,laid m fg mv led pn hs = some (t,order)∧order.toList.Perm (List.range hs.size)∧TbI t (order.toList.filterMap (hs[·]?))∧t.led = led∧t.plain = pn∧t.mask = m:=by
 have W0:OW m (Array.replicate (m+1) none) [] []:=by
  refine ⟨by simp,rfl,fun k j h=>by simp at h,fun j k h=>?_,fun i j h a b=>by simp at a⟩
  rw [Array.getElem?_replicate] at h
  split at h
  · cases h
  · cases h
 obtain ⟨owner,js,e,W⟩:=lay_all hm hs.toList [] _ _ W0 (by simpa using hl)
 rw [List.nil_append] at W
 have ec:layClean m hs = some owner:=by
  unfold layClean
  rw [← Array.foldl_toList]
  show Option.map (·.1) (hs.toList.foldl (layF m) (some (Array.replicate (m+1) none,0))) = _
  rw [show (0:Nat) = ([]:List Int).length from rfl,e]
  rfl
 generalize hg:(fun j:Nat=>(owner.getD j none).map (j,·)) = g
 have gi:∀ (j:Nat) (p:Nat × Nat),g j = some p→p.1 = j∧js[p.2]? = some j:=fun j p h=>by
  rw [← hg] at h
  obtain ⟨k,hk,rfl⟩:=Option.map_eq_some_iff.mp h
  refine ⟨rfl,W.inv j k ?_⟩
  by_cases z:j < owner.size
  · simp [Array.getD,z] at hk
    rw [Array.getElem?_eq_getElem z,hk]
  · simp [Array.getD,z] at hk
 have gj:∀ (j k:Nat),js[k]? = some j→g j = some (j,k):=fun j k h=>by
  have:=W.own k j h
  obtain ⟨z,e⟩:=Array.getElem?_eq_some_iff.mp this
  rw [← hg]
  simp [Array.getD,z,e]
 have pl:((List.range (m+1)).filterMap g).Pairwise fun a b=>a.1 < b.1∧a.2≠b.2:=by
  refine List.Pairwise.filterMap g (R:=(· < ·)) (fun a a' h b hb b' hb'=>?_) List.pairwise_lt_range
  obtain ⟨a1,a2⟩:=gi a b hb
  obtain ⟨b1,b2⟩:=gi a' b' hb'
  refine ⟨by rw [a1,b1];exact h,fun z=>?_⟩
  rw [z,b2] at a2
  have:=Option.some.inj a2
  omega
 generalize hL:(List.range (m+1)).filterMap g = L at pl
 have memL:∀ (j k:Nat),(j,k)∈L↔js[k]? = some j:=fun j k=>by
  rw [← hL,List.mem_filterMap]
  constructor
  · rintro ⟨a,_,h⟩
    obtain ⟨a1,a2⟩:=gi a _ h
    rw [← a1] at a2
    exact a2
  · intro h
    exact ⟨j,by have:=W.js_le (List.mem_of_getElem? h);simp;omega,gj j k h⟩
 have po:(L.map (·.2)).Perm (List.range hs.size):=by
  refine (List.perm_ext_iff_of_nodup ?_ List.nodup_range).mpr fun k=>?_
  · exact List.pairwise_map.mpr (pl.imp fun h=>h.2)
  · rw [List.mem_map,List.mem_range]
    have jl:js.length = hs.size:=by rw [W.jl];simp
    constructor
    · rintro ⟨⟨j,k'⟩,h,rfl⟩
      have:=(List.getElem?_eq_some_iff.mp ((memL j k').mp h)).1
      omega
    · intro h
      exact ⟨(js[k],k),(memL _ _).mpr (List.getElem?_eq_getElem _),rfl⟩
 have len:L.length = hs.size:=by
  have:=po.length_eq
  simpa using this
 have hsm:∀ k∈L.map (·.2),(hs[k]?).isSome = true:=fun k hk=>by
  have:=po.mem_iff.mp hk
  rw [List.mem_range] at this
  simp [this]
 have memP:∀ j,j∈L.map (·.1)↔j∈js:=fun j=>by
  rw [List.mem_map]
  constructor
  · rintro ⟨⟨j',k⟩,h,rfl⟩
    exact List.mem_of_getElem? ((memL _ _).mp h)
  · intro h
    obtain ⟨k,hk⟩:=List.getElem?_of_mem h
    exact ⟨(j,k),(memL j k).mpr hk,rfl⟩
 refine ⟨{ mask:=m,place:=(L.map (·.1)).toArray,dummies := #[],finger:=fg,led:=led,moves:=mv,plain:=pn },(L.map (·.2)).toArray,?_,po,⟨hm,rfl,?_,fun j hj=>W.js_le ((memP j).mp hj),?_,?_,fun i j h h1 h2=>?_⟩,rfl,rfl,rfl⟩
 · unfold laid
   rw [ec]
   show some _ = _
   rw [hg,hL]
 · exact List.pairwise_map.mpr (pl.imp fun h=>h.1)
 · show (L.map (·.1)).length = _
   rw [List.length_map,len]
   have:=congrArg List.length (show (L.map (·.2)).filterMap (hs[·]?) = (L.map (·.2)).filterMap (hs[·]?) from rfl)
   have key:∀ l:List Nat,(∀ k∈l,(hs[k]?).isSome = true)→(l.filterMap (hs[·]?)).length = l.length:=fun l=>by
    induction l with
    | nil=>intro _;rfl
    | cons x l ih =>
      intro h
      obtain ⟨y,hy⟩:=Option.isSome_iff_exists.mp (h x List.mem_cons_self)
      rw [List.filterMap_cons_some hy,List.length_cons,List.length_cons,ih fun k hk=>h k (List.mem_cons_of_mem _ hk)]
   rw [key _ hsm,List.length_map,len]
 · have key:∀ l:List Nat,(l.filterMap (hs[·]?)).length≤l.length:=fun l=>List.length_filterMap_le _ _
   have:=key (L.map (·.2))
   rw [List.length_map,len] at this
   exact Nat.le_trans this hl
 · have h1':(L.map (·.1))[i]? = some j:=h1
   rw [fm_get hsm] at h2
   rw [List.getElem?_map] at h1' h2
   cases q:L[i]? with
   | none=>rw [q] at h1';cases h1'
   | some p =>
     rw [q] at h1' h2
     obtain ⟨j',k⟩:=p
     have e1:j' = j:=by simpa using h1'
     subst e1
     have e2:hs[k]? = some h:=by simpa using h2
     obtain ⟨n,n1,n2⟩:=W.rch k j' h (by simpa using e2) ((memL j' k).mp (List.mem_of_getElem? q))
     exact ⟨n,n1,fun k' hk'=>(memP _).mpr (n2 k' hk')⟩
end PP
end
section
namespace PP
open PySem L2 PyProof.Rows PySem.SeqAt
mutual
def hD (w:World):D→Int
 | .str x=>hashStr w x
 | .int i=>hashInt i
 | .tup ds=>reduceHash (Builtin.Tuple.tupleHashOf (hDL w ds))
 | _=>0
def hDL (w:World):List D→List Int
 | []=>[]
 | d::ds=>hD w d::hDL w ds
end
mutual
def nD:D→Nat
 | .tup ds=>nDL ds+1
 | _=>1
def nDL:List D→Nat
 | []=>0
 | d::ds=>nD d+nDL ds
end
variable [Tbs]
section
variable {prog:Program} {w:World}
theorem tup_hash {A:Around} {E:Value→Shared→Prop} {s:Shared} {a:Addr} {its:Array Value} {hs:List Int} {k:Nat} {Q:Int→Shared→Prop} (hu:A.units < cLine) (ht:s.heap.IsTuple a its)
 (loop:∀ (Q':Array Int→Shared→Prop) (E':Value→Shared→Prop),(∀ b:Array Int,b.toList = hs→Q' b { s with toks:=s.toks+k })→wpAny (model prog w) A.in1 (forIn its.toList (#[]:Array Int) fun x b=>do
   let h ← pyHash x
   pure (.yield (b.push h))) Q' E' s)
 (h:Q (reduceHash (Builtin.Tuple.tupleHashOf hs)) { s with toks:=s.toks+(k+1) }):wpAny (model prog w) A (pyHash (.ref a)) Q E s:=by
 obtain ⟨o,ho,hc,n,hd⟩:=ht
 have hT:s.TypeIs (.ref a) "tuple":=⟨o,ho,hc⟩
 unfold pyHash
 first | unfold pyHashByItsType | skip
 first | refine wpAny_bind (wpAny_cRoomFor_or (.inr hu) ?_) | skip
 refine wpAny_bind (wpAny_specialOf hT PySem.F.slot_tuple_hash.lookup ?_)
 show wpAny _ _ (if (some (Value.builtin "tuple.__hash__") == some Value.none) = true then _ else _) Q E s
 rw [if_neg (by rw [beq_builtin_none];exact Bool.false_ne_true)]
 refine wpAny_bind (wpAny_specialOf hT PySem.F.slot_tuple_hash.lookup ?_)
 show wpAny _ _ (callSpecialIfBoundUnlessNone? (.ref a) "__hash__" _ >>= _) Q E s
 refine wpAny_bind (wpAny_callSpecialIfBoundUnlessNone?_slot hT PySem.F.slot_tuple_hash (wpAny_call_entry PySem.F.slot_tuple_hash hT PySem.F.entry_tuple_hash ?_ (PySem.F.args_tuple_hash_1 _)))
 show wpAny _ _ (Builtin.Tuple.tupleItemsOf (.ref a) >>= _) _ _ s
 refine wpAny_bind (wpAny_tupleItemsOf ho hd ?_)
 refine wpAny_bind ?_
 rw [← Array.forIn_toList]
 refine loop _ _ fun b hb=>?_
 show wpAny _ _ (retInt (Builtin.Tuple.tupleHashOf b.toList)) _ _ _
 rw [hb]
 refine wpAny_ret_mkInt ?_
 show wpAny _ _ (if (decide (-(2:Int) ^ 63≤Builtin.Tuple.tupleHashOf hs) && decide (Builtin.Tuple.tupleHashOf hs < 2 ^ 63)) = true then _ else _) Q E _
 unfold reduceHash at h
 by_cases hr:(decide (-(2:Int) ^ 63≤Builtin.Tuple.tupleHashOf hs) && decide (Builtin.Tuple.tupleHashOf hs < 2 ^ 63)) = true
 · rw [if_pos hr]
   rw [if_pos hr] at h
   exact wpAny_pure (by simpa [Nat.add_assoc] using h)
 · rw [if_neg hr]
   rw [if_neg hr] at h
   exact wpAny_bind (wpAny_rule (wpAny_pure (by simpa [Nat.add_assoc] using h)))
mutual
theorem hash_D:∀ (d:D) (A:Around) (E:Value→Shared→Prop) (s:Shared) (v:Value) (Q:Int→Shared→Prop),hb d = true→RdV s.heap d v→A.units+dep d < cLine→Q (hD w d) { s with toks:=s.toks+nD d }→wpAny (model prog w) A (pyHash v) Q E s
 | .str x,A,E,s,v,Q,_,r,_,q=>by
   unfold RdV at r;obtain ⟨t,rfl⟩:=r
   unfold hD nD at q
   exact wpAny_pyHash_str q
 | .int x,A,E,s,v,Q,_,r,_,q=>by
   unfold RdV at r;obtain ⟨t,rfl⟩:=r
   unfold hD nD at q
   exact wpAny_pyHash_int q
 | .tup ds,A,E,s,v,Q,h,r,hu,q=>by
   unfold RdV at r;obtain ⟨a,its,rfl,ht,rl⟩:=r
   unfold hb at h
   unfold hD nD at q
   unfold dep at hu
   refine tup_hash (hs:=hDL w ds) (k:=nDL ds) (by omega) ht (fun Q' E' q'=>?_) q
   exact hash_DL ds A.in1 E' s its.toList #[] Q' h rl (by show A.units+1+depL ds < cLine;omega) (by simpa using q')
 | .non,_,_,_,_,_,h,_,_,_=>by unfold hb at h;cases h
 | .bl _,_,_,_,_,_,h,_,_,_=>by unfold hb at h;cases h
 | .lst _,_,_,_,_,_,h,_,_,_=>by unfold hb at h;cases h
 | .fn _ _,_,_,_,_,_,h,_,_,_=>by unfold hb at h;cases h
theorem hash_DL:∀ (ds:List D) (A:Around) (E:Value→Shared→Prop) (s:Shared) (vs:List Value) (b0:Array Int) (Q:Array Int→Shared→Prop),hbL ds = true→RdL s.heap ds vs→A.units+depL ds < cLine →
 (∀ b:Array Int,b.toList = b0.toList++hDL w ds→Q b { s with toks:=s.toks+nDL ds })→wpAny (model prog w) A (forIn vs b0 fun x b=>do
   let h ← pyHash x
   pure (.yield (b.push h))) Q E s
 | [],A,E,s,vs,b0,Q,_,r,_,q=>by
   unfold RdL at r;subst r
   unfold hDL nDL at q
   exact wpAny_pure (q b0 (by simp))
 | d::ds,A,E,s,vs,b0,Q,h,r,hu,q=>by
   unfold RdL at r;obtain ⟨u,us,rfl,r1,r2⟩:=r
   unfold hbL at h
   rw [Bool.and_eq_true] at h
   unfold depL at hu
   unfold hDL nDL at q
   rw [List.forIn_cons]
   refine wpAny_bind (wpAny_bind (hash_D d A E s u _ h.1 r1 (by omega) (wpAny_pure ?_)))
   refine hash_DL ds A E _ us _ Q h.2 r2 (by omega) fun b hb=>?_
   have:=q b (by rw [hb];simp)
   simpa [Nat.add_assoc] using this
end
end
end PP
end
section
namespace PP
open PySem L2 PyProof.Rows PySem.SeqAt
variable [Tbs]
section
variable {prog:Program} {w:World} {A:Around} {E:Value→Shared→Prop}
theorem tup_items {s:Shared} {a:Addr} {its:Array Value} {Q:Option (Array Value)→Shared→Prop} (ht:s.heap.IsTuple a its) (h:Q (some its) s):wpAny (model prog w) A (seqItems? (.ref a)) Q E s:=by
 obtain ⟨o,ho,hc,n,hd⟩:=ht
 exact wpAny_seqItems ho hd h
mutual
theorem quiet_D:∀ (d:D) (n:Nat) (s:Shared) (v:Value) (Q:Bool→Shared→Prop),hb d = true→RdV s.heap d v→dep d≤n→Q true s→wpAny (model prog w) A (eqIsQuiet n v) Q E s
 | .str x,n,s,v,Q,_,r,_,q=>by
   unfold RdV at r;obtain ⟨t,rfl⟩:=r
   rw [eqIsQuiet_byValue n rfl]
   exact wpAny_pure q
 | .int x,n,s,v,Q,_,r,_,q=>by
   unfold RdV at r;obtain ⟨t,rfl⟩:=r
   rw [eqIsQuiet_byValue n rfl]
   exact wpAny_pure q
 | .tup ds,0,s,v,Q,h,r,hu,q=>by unfold dep at hu;omega
 | .tup ds,n+1,s,v,Q,h,r,hu,q=>by
   unfold RdV at r;obtain ⟨a,its,rfl,ht,rl⟩:=r
   unfold hb at h
   unfold dep at hu
   have ht':=ht
   obtain ⟨o,ho,hc,k,hd⟩:=ht'
   have hT:s.TypeIs (.ref a) "tuple":=⟨o,ho,hc⟩
   unfold eqIsQuiet
   refine wpAny_bind (wpAny_specialOf hT PySem.F.slot_tuple_eq.lookup ?_)
   show wpAny _ _ (isInstance (.ref a) (.type "tuple") >>= _) _ _ s
   refine wpAny_bind (wpAny_isInstance hT isSubtype_tuple_tuple ?_)
   simp only [Bool.not_true,Bool.false_eq_true,if_false]
   refine wpAny_bind (tup_items ht ?_)
   refine wpAny_bind ?_
   show wpAny _ _ (forIn its _ _) _ _ s
   rw [← Array.forIn_toList]
   refine quiet_DL ds n s its.toList _ h rl (by omega) ?_
   exact wpAny_pure q
 | .non,_,_,_,_,h,_,_,_=>by unfold hb at h;cases h
 | .bl _,_,_,_,_,h,_,_,_=>by unfold hb at h;cases h
 | .lst _,_,_,_,_,h,_,_,_=>by unfold hb at h;cases h
 | .fn _ _,_,_,_,_,h,_,_,_=>by unfold hb at h;cases h
theorem quiet_DL:∀ (ds:List D) (n:Nat) (s:Shared) (vs:List Value) (Q:Option Bool × Unit→Shared→Prop),hbL ds = true→RdL s.heap ds vs→depL ds≤n→Q (none,()) s →
 wpAny (model prog w) A (forIn vs ((none,()):Option Bool × Unit) fun y r=>do
  if (!(← eqIsQuiet n y)) = true then pure (.done (some false,())) else pure (.yield (none,()))) Q E s
 | [],n,s,vs,Q,_,r,_,q=>by
   unfold RdL at r;subst r
   exact wpAny_pure q
 | d::ds,n,s,vs,Q,h,r,hu,q=>by
   unfold RdL at r;obtain ⟨u,us,rfl,r1,r2⟩:=r
   unfold hbL at h
   rw [Bool.and_eq_true] at h
   unfold depL at hu
   rw [List.forIn_cons]
   refine wpAny_bind (wpAny_bind (quiet_D d n s u _ h.1 r1 (by omega) ?_))
   simp only [Bool.not_true,Bool.false_eq_true,if_false]
   exact wpAny_pure (quiet_DL ds n s us Q h.2 r2 (by omega) q)
end
mutual
theorem plain_D:∀ (d:D) (n:Nat) (s:Shared) (v:Value) (Q:Bool→Shared→Prop),hb d = true→RdV s.heap d v→dep d≤n→Q false s→wpAny (model prog w) A (ofAClassStatement n v) Q E s
 | .str x,n,s,v,Q,_,r,_,q=>by
   unfold RdV at r;obtain ⟨t,rfl⟩:=r
   unfold ofAClassStatement
   exact wpAny_pure q
 | .int x,n,s,v,Q,_,r,_,q=>by
   unfold RdV at r;obtain ⟨t,rfl⟩:=r
   unfold ofAClassStatement
   exact wpAny_pure q
 | .tup ds,0,s,v,Q,h,r,hu,q=>by unfold dep at hu;omega
 | .tup ds,n+1,s,v,Q,h,r,hu,q=>by
   unfold RdV at r;obtain ⟨a,its,rfl,ht,rl⟩:=r
   unfold hb at h
   unfold dep at hu
   have ht':=ht
   obtain ⟨o,ho,hc,k,hd⟩:=ht'
   have hT:s.TypeIs (.ref a) "tuple":=⟨o,ho,hc⟩
   unfold ofAClassStatement
   refine wpAny_bind (wpAny_typeOf hT ?_)
   dsimp only
   rw [if_pos (by decide)]
   refine wpAny_bind (wpAny_pure ?_)
   simp only [Bool.not_true,Bool.false_eq_true,if_false]
   refine wpAny_bind (tup_items ht ?_)
   dsimp only
   refine wpAny_bind ?_
   show wpAny _ _ (forIn its _ _) _ _ s
   rw [← Array.forIn_toList]
   refine plain_DL ds n s its.toList _ h rl (by omega) ?_
   exact wpAny_pure q
 | .non,_,_,_,_,h,_,_,_=>by unfold hb at h;cases h
 | .bl _,_,_,_,_,h,_,_,_=>by unfold hb at h;cases h
 | .lst _,_,_,_,_,h,_,_,_=>by unfold hb at h;cases h
 | .fn _ _,_,_,_,_,h,_,_,_=>by unfold hb at h;cases h
theorem plain_DL:∀ (ds:List D) (n:Nat) (s:Shared) (vs:List Value) (Q:Option Bool × Unit→Shared→Prop),hbL ds = true→RdL s.heap ds vs→depL ds≤n→Q (none,()) s →
 wpAny (model prog w) A (forIn vs ((none,()):Option Bool × Unit) fun y r=>do
  if (← ofAClassStatement n y) = true then pure (.done (some true,())) else pure (.yield (none,()))) Q E s
 | [],n,s,vs,Q,_,r,_,q=>by
   unfold RdL at r;subst r
   exact wpAny_pure q
 | d::ds,n,s,vs,Q,h,r,hu,q=>by
   unfold RdL at r;obtain ⟨u,us,rfl,r1,r2⟩:=r
   unfold hbL at h
   rw [Bool.and_eq_true] at h
   unfold depL at hu
   rw [List.forIn_cons]
   refine wpAny_bind (wpAny_bind (plain_D d n s u _ h.1 r1 (by omega) ?_))
   simp only [Bool.false_eq_true,if_false]
   exact wpAny_pure (plain_DL ds n s us Q h.2 r2 (by omega) q)
end
theorem hok_inv {d:D} (h:hok d = true):hb d = true∧dep d≤8∧∃ x ds,d = .tup (.str x::ds):=by
 unfold hok at h
 split at h
 · rename_i x ds
   rw [Bool.and_eq_true,decide_eq_true_eq] at h
   refine ⟨by simp [hb,hbL,h.1],?_,x,ds,rfl⟩
   have:dep (.str x) = 0:=by unfold dep;rfl
   unfold dep depL
   omega
 · cases h
theorem hok_ref {h:Heap} {d:D} {v:Value} (k:hok d = true) (r:RdV h d v):∃ a,v = .ref a:=by
 obtain ⟨_,_,x,ds,rfl⟩:=hok_inv k
 unfold RdV at r
 obtain ⟨a,its,rfl,_⟩:=r
 exact ⟨a,rfl⟩
theorem byValue_D {d:D} {s:Shared} {v:Value} {Q:Bool→Shared→Prop} (k:hok d = true) (r:RdV s.heap d v) (q:Q false s):wpAny (model prog w) A (hashByValue 8 v) Q E s:=by
 obtain ⟨_,_,x,ds,rfl⟩:=hok_inv k
 unfold RdV at r
 obtain ⟨a,its,rfl,ht,rl⟩:=r
 unfold RdL at rl
 obtain ⟨u,us,eu,r1,_⟩:=rl
 unfold RdV at r1
 obtain ⟨t,rfl⟩:=r1
 have ht':=ht
 obtain ⟨o,ho,hc,n,hd⟩:=ht'
 have hT:s.TypeIs (.ref a) "tuple":=⟨o,ho,hc⟩
 unfold hashByValue
 refine wpAny_bind (wpAny_specialOf hT PySem.F.slot_tuple_hash.lookup ?_)
 show wpAny _ _ (seqItems? (.ref a) >>= _) _ _ s
 refine wpAny_bind (tup_items ht ?_)
 refine wpAny_bind ?_
 show wpAny _ _ (forIn its _ _) _ _ s
 rw [← Array.forIn_toList,eu,List.forIn_cons]
 refine wpAny_bind (wpAny_bind (wpAny_of_eq (a:=false) (by unfold hashByValue;rfl) ?_))
 simp only [Bool.not_false,if_true]
 exact wpAny_pure (wpAny_pure (wpAny_pure q))
end
end PP
end
section
namespace PP
open PySem L2 PyProof.Rows
section
variable {prog:Program} {w:World} {A:Around} {E:Value→Shared→Prop} {s:Shared}
theorem set_put {a:Addr} {es es':Array (Int × Value)} {ep:Nat} {t t':SetTable} {h:Heap} (g:h.get? a = some { cls:=.type "set",dict:=none,data:=.set es ep t,slots := #[] }) :
 (h.update a (Obj.putSet es' t')).get? a = some { cls:=.type "set",dict:=none,data:=.set es' (ep+1) t',slots := #[] }:=Heap.get?_update_self (Obj.putSet es' t') g rfl
end
end PP
end
section
namespace PP
open PySem L2 PyProof.Rows PySem.SeqAt
mutual
theorem eqD_iff:∀ (a b:D),hb a = true→hb b = true→(eqD a b = true↔a = b)
 | .str x,.str y,_,_=>by unfold eqD;simp
 | .int x,.int y,_,_=>by unfold eqD;simp
 | .tup xs,.tup ys,h1,h2=>by
   unfold hb at h1 h2
   unfold eqD
   rw [eqDs_iff xs ys h1 h2]
   simp
 | .str _,.int _,_,_ | .str _,.tup _,_,_ | .int _,.str _,_,_ | .int _,.tup _,_,_ | .tup _,.str _,_,_ | .tup _,.int _,_,_=>by unfold eqD;simp
 | .non,_,h,_ | .bl _,_,h,_ | .lst _,_,h,_ | .fn _ _,_,h,_=>by unfold hb at h;cases h
 | _,.non,_,h | _,.bl _,_,h | _,.lst _,_,h | _,.fn _ _,_,h=>by unfold hb at h;cases h
theorem eqDs_iff:∀ (a b:List D),hbL a = true→hbL b = true→(eqDs a b = true↔a = b)
 | [],[],_,_=>by unfold eqDs;simp
 | [],_::_,_,_=>by unfold eqDs;simp
 | _::_,[],_,_=>by unfold eqDs;simp
 | x::xs,y::ys,h1,h2=>by
   unfold hbL at h1 h2
   rw [Bool.and_eq_true] at h1 h2
   unfold eqDs
   rw [Bool.and_eq_true,eqD_iff x y h1.1 h2.1,eqDs_iff xs ys h1.2 h2.2]
   simp
end
variable [Tbs]
def EntD (w:World) (h:Heap) (ds:List D) (es:List (Int × Value)):Prop:=Paired (fun (d:D) (e:Int × Value)=>e.1 = hD w d∧hok d = true∧RdV h d e.2) ds es
theorem paired_get {α β:Type} {R:α→β→Prop} {xs:List α} {ys:List β} (h:Paired R xs ys):∀ (i:Nat) (y:β),ys[i]? = some y→∃ x,xs[i]? = some x∧R x y:=by
 induction h with
 | nil=>intro i y e;simp at e
 | cons r _ ih =>
   intro i y e
   cases i with
   | zero=>simp at e;exact ⟨_,rfl,e▸r⟩
   | succ i=>exact ih i y (by simpa using e)
theorem paired_got {α β:Type} {R:α→β→Prop} {xs:List α} {ys:List β} (h:Paired R xs ys):∀ (i:Nat) (x:α),xs[i]? = some x→∃ y,ys[i]? = some y∧R x y:=by
 induction h with
 | nil=>intro i y e;simp at e
 | cons r _ ih =>
   intro i y e
   cases i with
   | zero=>simp at e;exact ⟨_,rfl,e▸r⟩
   | succ i=>exact ih i y (by simpa using e)
section
variable {prog:Program} {w:World} {A:Around} {E:Value→Shared→Prop} {s:Shared}
theorem seen_D {d:D} {x:Value} {Q:Bool→Shared→Prop} (hx:hok d = true) (rx:RdV s.heap d x) (q:Q false s):∀ (vs:List Value),(∀ v∈vs,∃ e,hok e = true∧RdV s.heap e v)→wpAny (model prog w) A (searchCouldBeSeen x vs) Q E s:=by
 intro vs hv
 obtain ⟨hb1,hd1,_⟩:=hok_inv hx
 unfold searchCouldBeSeen
 refine wpAny_bind ?_
 refine wpAny_forIn_list _ (fun rest r s'=>r = (none,())∧s' = s∧∀ v∈rest,∃ e,hok e = true∧RdV s.heap e v) _ ?_ ?_ _ _ ⟨rfl,rfl,hv⟩
 · rintro y rest r s' ⟨rfl,rfl,hall⟩
   obtain ⟨e,he,re⟩:=hall y List.mem_cons_self
   obtain ⟨hb2,hd2,_⟩:=hok_inv he
   have hr:∀ v∈rest,∃ e,hok e = true∧RdV s'.heap e v:=fun v hv=>hall v (List.mem_cons_of_mem _ hv)
   obtain ⟨b,rfl⟩:=hok_ref hx rx
   obtain ⟨c,rfl⟩:=hok_ref he re
   dsimp only
   by_cases hc:(b == c || carriedByValue (.ref b) && carriedByValue (.ref c)) = true
   · rw [if_pos hc]
     refine wpAny_pure ?_
     exact ⟨rfl,rfl,hr⟩
   · rw [if_neg hc]
     refine wpAny_bind (quiet_D d 8 s' _ _ hb1 rx hd1 ?_)
     simp only [Bool.not_true,Bool.false_eq_true,if_false]
     refine wpAny_bind (quiet_D e 8 s' _ _ hb2 re hd2 ?_)
     simp only [Bool.not_true,Bool.false_eq_true,if_false]
     refine wpAny_bind (plain_D d 8 s' _ _ hb1 rx hd1 ?_)
     simp only [Bool.false_eq_true,if_false]
     refine wpAny_bind (plain_D e 8 s' _ _ hb2 re hd2 ?_)
     simp only [Bool.false_eq_true,if_false]
     refine wpAny_pure ?_
     exact ⟨rfl,rfl,hr⟩
 · rintro r s' ⟨rfl,rfl,_⟩
   exact wpAny_pure q
theorem fits_of {t:SetTable} {hs:List Int} (T:TbI t hs) {n:Nat} (h:hs.length = n):t.fits n = true:=by
 have h1:t.place.size = n:=by rw [← h,← T.len];simp
 unfold SetTable.fits SetTable.fill
 rw [T.dm,h1]
 have:=T.few
 simp
 omega
theorem odd_of {m:Nat} (h:mk m):(m % 2 == 0) = false:=by rcases h with rfl | rfl | rfl<;>rfl
theorem search_D {a:Addr} {es:Array (Int × Value)} {ep:Nat} {t:SetTable} {ds:List D} {d:D} {x:Value} {Q:SetFound→Shared→Prop} (hu:A.units+20 < cLine)
 (g:s.heap.get? a = some { cls:=.type "set",dict:=none,data:=.set es ep t,slots := #[] }) (T:TbI t (es.toList.map (·.1))) (he:EntD w s.heap ds es.toList) (hx:hok d = true) (rx:RdV s.heap d x)
 (there:d∈ds→Q (.there none) s) (free:d∉ds→∀ N,ps t.mask (hD w d) N∉t.place.toList→(∀ k < N,ps t.mask (hD w d) k∈t.place.toList)→Q (.free (ps t.mask (hD w d) N) false) s) :
 wpAny (model prog w) A (setSearch a x (hD w d) (adding:=true)) Q E s:=by
 have hf:t.fits es.size = true:=fits_of T (by simp)
 have hsi:∀ (i:Nat) (e:Int × Value),es.toList[i]? = some e→(es.toList.map (·.1))[i]? = some e.1:=fun i e z=>by rw [List.getElem?_map,z];rfl
 obtain ⟨N0,_,n2,n3⟩:=T.room (hD w d) 0
 have hT0:10 * SetTable.turns t.mask < 100000:=by
  unfold SetTable.turns
  rcases T.mok with z | z | z<;>rw [z]<;>decide
 obtain ⟨hb1,hd1,_⟩:=hok_inv hx
 have main:∀ (f n:Nat) (st:Option SetTable.Probe),st.getD (t.probeStart (hD w d)) = sq t.mask (hD w d) n→n≤N0→N0 - n < f→(∀ k < n,ps t.mask (hD w d) k∈t.place.toList) →
  (∀ (i k:Nat),k < n→t.place.toList[i]? = some (ps t.mask (hD w d) k)→ds[i]?≠some d)→wpAny (model prog w) A (setSearchFrom a x (hD w d) true f st) Q E s:=by
  intro f
  induction f with
  | zero=>intro n st _ _ z;omega
  | succ f ih =>
    intro n st hst hn hf' hr hv
    unfold setSearchFrom
    refine wpAny_bind (wpAny_setState_of g rfl hf ?_)
    dsimp only
    rw [if_neg (by show ¬ (t.mask % 2 == 0) = true;rw [odd_of T.mok];exact Bool.false_ne_true),hst]
    obtain ⟨r,er,pr⟩:=probe_ok T (hD w d) (ha:=fun i=>(es[i]?.map (·.1)).getD 0) (fun i h z=>by
     rw [List.getElem?_map] at z
     obtain ⟨e,e1,e2⟩:=Option.map_eq_some_iff.mp z
     have:es[i]? = some e:=by simpa using e1
     simp [this,e2]) n
    generalize hp:t.probe _ (hD w d) (sq t.mask (hD w d) n) = pr'
    have hp':pr' = some r:=hp.symm.trans er
    subst hp'
    cases pr with
    | empty N a b c =>
      refine wpAny_pure (free (fun hm=>?_) N b fun k hk=>?_)
      · obtain ⟨i,hi⟩:=List.getElem?_of_mem hm
        obtain ⟨e,e1,e2,_,_⟩:=paired_got he i d hi
        have hl:i < t.place.toList.length:=by
         rw [T.len,List.length_map]
         exact (List.getElem?_eq_some_iff.mp e1).1
        have ej:=List.getElem?_eq_getElem hl
        have eh:(es.toList.map (·.1))[i]? = some (hD w d):=by rw [hsi i e e1,e2]
        obtain ⟨n0,m1,m2⟩:=T.rch i _ _ ej eh
        rw [← m1] at ej
        rcases Nat.lt_or_ge n0 n with z | z
        · exact hv i n0 z ej hi
        · rcases Nat.lt_trichotomy n0 N with y | y | y
          · exact (c n0 z y).2 i ej eh
          · rw [y] at ej
            exact b (List.mem_of_getElem? ej)
          · exact b (m2 N y)
      · rcases Nat.lt_or_ge k n with z | z
        · exact hr k z
        · exact (c k z hk).1
    | cand N i aN b e c =>
      rw [List.getElem?_map] at e
      obtain ⟨ei,e1,e2⟩:=Option.map_eq_some_iff.mp e
      obtain ⟨di,d1,d2,d3,d4⟩:=paired_get he i ei e1
      obtain ⟨hb2,hd2,_⟩:=hok_inv d3
      have e1':es[i]? = some ei:=by simpa using e1
      have hN:N+1≤N0:=by
       rcases Nat.lt_or_ge N N0 with z | z
       · exact z
       · rcases Nat.lt_or_eq_of_le z with y | y
         · exact absurd (c N0 hn y).1 n3
         · exact absurd (by rw [y];exact List.mem_of_getElem? b) n3
      have hall:∀ v∈List.map (fun x=>x.snd) (Array.filter (fun x=>x.fst == hD w d) es).toList,∃ e,hok e = true∧RdV s.heap e v:=fun v hv=>by
       obtain ⟨y,hy,rfl⟩:=List.mem_map.mp hv
       rw [Array.toList_filter] at hy
       obtain ⟨k,hk⟩:=List.getElem?_of_mem (List.mem_filter.mp hy).1
       obtain ⟨q,_,_,q1,q2⟩:=paired_get he k y hk
       exact ⟨q,q1,q2⟩
      have go:wpAny (model prog w) A (setSearchFrom a x (hD w d) true f (some (sq t.mask (hD w d) (N+1)))) Q E s∨di = d:=by
       by_cases z:di = d
       · exact .inr z
       · refine .inl (ih (N+1) (some (sq t.mask (hD w d) (N+1))) rfl hN (by omega) (fun k hk=>?_) fun i' k hk h1 h2=>?_)
         · rcases Nat.lt_or_ge k n with y | y
           · exact hr k y
           · rcases Nat.lt_or_eq_of_le (Nat.le_of_lt_succ hk) with y' | y'
             · exact (c k y y').1
             · rw [y'];exact List.mem_of_getElem? b
         · rcases Nat.lt_or_ge k n with y | y
           · exact hv i' k y h1 h2
           · obtain ⟨e',q1,q2,_⟩:=paired_got he i' d h2
             have eh:(es.toList.map (·.1))[i']? = some (hD w d):=by rw [hsi i' e' q1,q2]
             rcases Nat.lt_or_eq_of_le (Nat.le_of_lt_succ hk) with y' | y'
             · exact (c k y y').2 i' h1 eh
             · rw [y'] at h1
               have l1:=T.live h1
               rw [T.live b] at l1
               cases l1
               rw [d1] at h2
               exact z (Option.some.inj h2)
      dsimp only
      split
      all_goals
       try
        refine wpAny_bind (seen_D hx rx ?_ _ hall)
        simp only [Bool.false_eq_true,if_false]
       rw [e1']
       dsimp only
       refine wpAny_bind (wpAny_holding (eqAt_D di d A s ei.2 x d4 rx (by omega) prog w E _ ?_))
       refine wpAny_bind (wpAny_setState_of g rfl hf ?_)
       dsimp only
       rcases go with go | go
       · by_cases hq:eqD di d = true
         · rw [hq]
           simp only [Bool.and_self,if_true]
           exact wpAny_pure (there (by rw [← (eqD_iff di d hb2 hb1).mp hq];exact List.mem_of_getElem? d1))
         · rw [Bool.eq_false_iff.mpr hq,if_neg (by decide)]
           rw [show t.sameMemory t.moves t.mask = some true by unfold SetTable.sameMemory;simp]
           dsimp only
           rw [if_pos rfl,T.live b]
           dsimp only
           rw [e1']
           dsimp only
           refine wpAny_bind (wpAny_of_eq (a:=true) (by obtain ⟨c,hc⟩:=hok_ref d3 d4;rw [hc];unfold isSame;simp) ?_)
           exact wpAny_bind (wpAny_pure go)
       · have hq:eqD di d = true:=(eqD_iff di d hb2 hb1).mpr go
         rw [hq]
         simp only [Bool.and_self,if_true]
         exact wpAny_pure (there (by rw [← go];exact List.mem_of_getElem? d1))
 exact main 100000 0 none rfl (by omega) (by omega) (fun k hk=>by omega) fun i k hk=>by omega
end
end PP
end
section
namespace PP
open PySem L2 PyProof.Rows
theorem choose_wp {M:Model} {A:Around} {E:Value→Shared→Prop} {s:Shared} {src:Source} {n:Nat} {Q:Nat→Shared→Prop} (hn:n≠0) (h:∀ i,i < n→Q i { s with drawn:=s.drawn.bump src }):wpAny M A (choose src n) Q E s :=
 fun Γ p hΓ=>⟨hn,h _ (Nat.mod_lt _ (Nat.pos_of_ne_zero hn))⟩
theorem erase_perm {α:Type}:∀ {xs:List α} {i:Nat} {x:α},xs[i]? = some x→xs.Perm (x::xs.eraseIdx i)
 | [],i,x,h=>by simp at h
 | y::ys,0,x,h=>by simp at h;subst h;exact .refl _
 | y::ys,i+1,x,h=>by
   have:=erase_perm (xs:=ys) (i:=i) (by simpa using h)
   exact (this.cons y).trans (.swap _ _ _)
theorem order_wp {α:Type} {M:Model} {A:Around} {E:Value→Shared→Prop}:∀ (n:Nat) (xs:List α) (s:Shared) (Q:List α→Shared→Prop),xs.length = n→(∀ ys d,ys.Perm xs→Q ys { s with drawn:=d })→wpAny M A (drawOrder n xs) Q E s
 | 0,xs,s,Q,hl,h=>by
   have:xs = []:=List.length_eq_zero_iff.mp hl
   subst this
   exact wpAny_pure (h [] s.drawn (.refl _))
 | n+1,[],s,Q,hl,h=>by simp at hl
 | n+1,x::xs,s,Q,hl,h=>by
   unfold drawOrder
   refine wpAny_bind (choose_wp (by simp) fun i hi=>?_)
   have e:(x::xs)[i]? = some (x::xs)[i]:=List.getElem?_eq_getElem hi
   have pe:=erase_perm e
   rw [e]
   dsimp only
   refine wpAny_bind (order_wp n _ _ _ ?_ fun ys d p=>wpAny_pure ?_)
   · rw [List.length_eraseIdx_of_lt hi];simp at hl ⊢;exact hl
   · exact h _ d ((p.cons _).trans pe.symm)
theorem pick_go {α:Type} (f:Nat→Nat):∀ (n k:Nat) (left:List α) (out:Array α),left.length = n→(pickOrder.go f n k left out).toList.Perm (out.toList++left)
 | 0,k,left,out,hl=>by
   have:left = []:=List.length_eq_zero_iff.mp hl
   subst this
   simp [pickOrder.go]
 | n+1,k,left,out,hl=>by
   have hi:f k % left.length < left.length:=Nat.mod_lt _ (by omega)
   have e:left[f k % left.length]? = some left[f k % left.length]:=List.getElem?_eq_getElem hi
   have pe:=erase_perm e
   unfold pickOrder.go
   rw [e]
   dsimp only
   refine (pick_go f n (k+1) _ _ (by rw [List.length_eraseIdx_of_lt hi];omega)).trans ?_
   rw [Array.toList_push,List.append_assoc]
   exact (List.Perm.refl _).append pe.symm
theorem pick_perm {α:Type} (f:Nat→Nat) (xs:Array α):(pickOrder f xs).toList.Perm xs.toList:=by
 have:=pick_go f xs.size 0 xs.toList #[] (by simp)
 simpa [pickOrder] using this
theorem slot_sn:Slot "set_iterator" "__next__" "set_iterator.__next__" :=
 .of (owner:="set_iterator") (n:="__next__") (by rw [typeLookup_type,builtinLookup_eq_fast];kernel_rfl) (by decide +kernel) (by decide +kernel) (by decide +kernel) (by first | exact .inl (by decide +kernel) | exact .inr (by decide +kernel)) (by rw [isSubtype_type];kernel_rfl)
theorem entry_sn:entryFor table "set_iterator.__next__" = some Builtin.«set_iterator.__next__»:=entryFor_of_tree (by kernel_rfl)
theorem args_sn (a:Value):argsOk "set_iterator.__next__" ⟨[a],[]⟩:=by unfold argsOk;kernel_rfl
theorem entry_si:entryFor table "set.__iter__" = some Builtin.«frozenset.__iter__»:=entryFor_alias (id':="frozenset.__iter__") (by kernel_rfl) rfl (by decide +kernel) (by kernel_rfl)
theorem entry_sii:entryFor table "set_iterator.__iter__" = some Builtin.«dict_keyiterator.__iter__»:=entryFor_alias (id':="dict_keyiterator.__iter__") (by kernel_rfl) rfl (by decide +kernel) (by kernel_rfl)
theorem args_sii (a:Value):argsOk "set_iterator.__iter__" ⟨[a],[]⟩:=by unfold argsOk;kernel_rfl
theorem slot_sii:Slot "set_iterator" "__iter__" "set_iterator.__iter__" :=
 .of (owner:="set_iterator") (n:="__iter__") (by rw [typeLookup_type,builtinLookup_eq_fast];kernel_rfl) (by decide +kernel) (by decide +kernel) (by decide +kernel) (by first | exact .inl (by decide +kernel) | exact .inr (by decide +kernel)) (by rw [isSubtype_type];kernel_rfl)
section
variable {prog:Program} {w:World} {A:Around} {E:Value→Shared→Prop} {s:Shared}
def itO (first:Value) (i:Nat) (a:Addr) (n ep:Nat):Obj:={ cls:=.type "set_iterator",data:=.fields #[first,.int i 0,.ref a,.int n 0,.int ep 0] }
theorem iter_set {a:Addr} {es:Array (Int × Value)} {ep:Nat} {t:SetTable} {Q:Value→Shared→Prop} (g:s.heap.get? a = some { cls:=.type "set",dict:=none,data:=.set es ep t,slots := #[] }) (hf:t.fits es.size = true)
 (hd:(w.params.followText "set-order" = true∨es.size≤1)→Q (.ref s.heap.objs.size) { s with heap:=s.heap.push (itO (.int 0 0) 0 a es.size ep) })
 (hn:w.params.followText "set-order" = false→∀ (ps:List Nat) d,ps.Perm (List.range es.size) →
   Q (.ref (s.heap.objs.size+1)) { s with drawn:=d,heap:=(s.heap.push { cls:=.type "tuple",data:=.seq (ps.map fun (i:Nat)=>rawInt i).toArray }).push (itO (.ref s.heap.objs.size) 0 a es.size ep) })
 (hz:es.size < 1000) (hp:es.size = 0∨t.plain = false):wpAny (model prog w) A (pyIter (.ref a)) Q E s:=by
 refine wpAny_pyIter_slot (T:="set") ⟨_,g,rfl⟩ PySem.F.slot_set_iter (wpAny_call_entry PySem.F.slot_set_iter ⟨_,g,rfl⟩ entry_si ?_ (PySem.F.args_set_iter_1 _))
 unfold Builtin.«frozenset.__iter__» Builtin.Frozenset.slot0 Builtin.Frozenset.addrOf Builtin.Frozenset.sizeOf
 simp only [slotArgs,List.isEmpty_nil,Bool.not_true,Bool.false_eq_true,if_false,List.length_nil,bne_self_eq_false,pure_bind,bind_assoc]
 refine wpAny_bind (wpAny_setEntries_of g rfl hf ?_)
 unfold setDrawn setsByText
 simp only [bind_assoc,pure_bind]
 refine wpAny_bind (wpAny_setState_of g rfl hf (wpAny_bind (wpAny_askSetting ?_)))
 have sn:typeLookup (.type "set_iterator") (Str.ofString "__next__") = pure (some (.builtin "set_iterator.__next__")):=slot_sn.lookup
 cases hb:w.params.followText "set-order" with
 | true =>
   rw [show ((model prog w).w.params.followText "set-order") = true from hb]
   simp only [Bool.not_true,Bool.false_and,Bool.false_eq_true,if_false]
   refine wpAny_bind (wpAny_setEpoch_of g rfl hf (wpAny_bind (wpAny_newObj_type (wpAny_pure ⟨_,rfl,"set_iterator",_,⟨_,Heap.get?_push_size _ rfl,rfl⟩,sn,hd (.inl hb)⟩))))
 | false =>
   rw [show ((model prog w).w.params.followText "set-order") = false from hb]
   split
   · refine wpAny_bind (order_wp _ _ _ _ (by simp) fun ps d p=>?_)
     have hl:ps.length = es.size:=by rw [p.length_eq];simp
     unfold newTuple
     refine wpAny_bind (wpAny_newObj_type ?_ (by show (ps.map fun (i:Nat)=>rawInt i).toArray.size≤sizeLine;rw [sizeLine_eq];simp;omega))
     refine wpAny_bind (wpAny_setEpoch_of (s:={ s with drawn:=d,heap:=s.heap.push { cls:=.type "tuple",data:=.seq (ps.map fun (i:Nat)=>rawInt i).toArray } }) (Heap.get?_push_of_some _ g) rfl hf ?_)
     refine wpAny_bind (wpAny_newObj_type (wpAny_pure ⟨_,rfl,"set_iterator",_,⟨_,Heap.get?_push_size _ rfl,rfl⟩,sn,?_⟩))
     have:=hn hb ps d p
     rw [show (s.heap.push { cls:=.type "tuple",data:=.seq (ps.map fun (i:Nat)=>rawInt i).toArray }).objs.size = s.heap.objs.size+1 from Heap.size_push ..]
     exact this
   · rename_i nd
     have h1:es.size≤1:=by
      rcases hp with z | z
      · omega
      · apply Classical.byContradiction
        intro h2
        apply nd
        show (!false && (!t.plain && decide (es.size > 1))) = true
        rw [z]
        simp
        omega
     refine wpAny_bind (wpAny_setEpoch_of g rfl hf (wpAny_bind (wpAny_newObj_type (wpAny_pure ⟨_,rfl,"set_iterator",_,⟨_,Heap.get?_push_size _ rfl,rfl⟩,sn,hd (.inr h1)⟩))))
end
end PP
end
section
namespace PP
open PySem L2 PyProof.Rows
section
variable {prog:Program} {w:World} {A:Around} {E:Value→Shared→Prop} {s:Shared}
def setO (es:Array (Int × Value)) (ep:Nat) (t:SetTable):Obj:={ cls:=.type "set",dict:=none,data:=.set es ep t,slots := #[] }
def plO (ps:List Nat):Obj:={ cls:=.type "tuple",data:=.seq (ps.map fun (i:Nat)=>rawInt i).toArray }
theorem it_self {I:Addr} {f:Value} {i:Nat} {a:Addr} {n ep:Nat} {Q:Value→Shared→Prop} (g:s.heap.get? I = some (itO f i a n ep)) (h:Q (.ref I) s):wpAny (model prog w) A (pyIter (.ref I)) Q E s:=by
 refine wpAny_pyIter_slot (T:="set_iterator") ⟨_,g,rfl⟩ slot_sii (wpAny_call_entry slot_sii ⟨_,g,rfl⟩ entry_sii ?_ (args_sii _))
 exact wpAny_pure ⟨_,rfl,"set_iterator",_,⟨_,g,rfl⟩,slot_sn.lookup,h⟩
theorem stop_wp {Q:Option Value→Shared→Prop} {Q':PySem.Fin→Shared→Prop} (hh:A.handled = none) (h:∀ h',(∀ b o,s.heap.get? b = some o→h'.get? b = some o)→Q none { s with heap:=h' }) :
 wpAny (model prog w) A.in1 (do raiseNew (← newExc (.type "StopIteration") [])) Q' (fun e s'=>wpAny (model prog w) A (do
  let b ← isInstance e (.type "StopIteration")
  if b = true then pure none else throw e) Q E s') s:=by
 refine wpAny_bind ?_
 simp only [newExc,newTuple]
 refine wpAny_bind (wpAny_newObj_type (wpAny_bind (m:=firstArgMember _ _) (wpAny_of_eq (a:=Value.none) (by first | rfl | (simp only [firstArgMember];rfl)) (wpAny_newObj_type ?_ (by size_fits)))) (by size_fits))
 simp only [raiseNew]
 apply wpAny_bind;apply wpAny_handled;rw [(hh:A.in1.handled = none)];dsimp only;apply wpAny_throw
 refine wpAny_bind (wpAny_isInstance (b:=true) (T:="StopIteration") ⟨_,Heap.get?_push_size _ rfl,rfl⟩ isSubtype_stop (wpAny_pure (h _ fun b o e=>?_)))
 exact Heap.get?_push_of_some _ (Heap.get?_push_of_some _ e)
theorem itO_set0 {I:Addr} {f x:Value} {i:Nat} {a:Addr} {n ep:Nat} {h:Heap} (g:h.get? I = some (itO f i a n ep)):(h.update I (Obj.mapFields (·.setIfInBounds 0 x))).get? I = some (itO x i a n ep):=Heap.get?_update_self _ g rfl
theorem itO_set1 {I:Addr} {f:Value} {i:Nat} {a:Addr} {n ep:Nat} {h:Heap} (g:h.get? I = some (itO f i a n ep)):(h.update I (Obj.mapFields (·.setIfInBounds 1 (rawInt ((i:Int)+1))))).get? I = some (itO f (i+1) a n ep):=by
 have:=Heap.get?_update_self (Obj.mapFields (·.setIfInBounds 1 (rawInt ((i:Int)+1)))) g rfl
 rw [this]
 simp [Obj.mapFields,itO,rawInt]
section
variable {I a:Addr} {es:Array (Int × Value)} {ep:Nat} {t:SetTable} {i:Nat} {Q:Option Value→Shared→Prop}
theorem nx_int {slot:Nat} (g:s.heap.get? I = some (itO (.int slot 0) i a es.size ep)) (ga:s.heap.get? a = some (setO es ep t)) (hf:t.fits es.size = true) (hh:A.handled = none) {r:Option (Value × Nat)}
 (hs:∀ (A':Around) (Q':Option (Value × Nat)→Shared→Prop) (E':Value→Shared→Prop),Q' r s→wpAny (model prog w) A' (setNext a slot i ep) Q' E' s)
 (h:match r with
   | some (x,next)=>∀ h',h'.get? I = some (itO (.int next 0) (i+1) a es.size ep)→(∀ b o,b≠I→s.heap.get? b = some o→h'.get? b = some o)→Q (some x) { s with heap:=h' }
   | none=>∀ h',(∀ b o,b≠I→s.heap.get? b = some o→h'.get? b = some o)→Q none { s with heap:=h' }) :
 wpAny (model prog w) A (pyNext (.ref I)) Q E s:=by
 unfold pyNext
 refine wpAny_bind (wpAny_attempt (wpAny_callSpecial?_slot (name:=Str.ofString "__next__") ⟨_,g,rfl⟩ slot_sn (wpAny_call_entry slot_sn ⟨_,g,rfl⟩ entry_sn ?_ (args_sn _))))
 unfold Builtin.«set_iterator.__next__»
 simp only [slotArgs,List.isEmpty_nil,Bool.not_true,Bool.false_eq_true,if_false,List.length_nil,bne_self_eq_false,pure_bind,bind_assoc]
 refine wpAny_bind (wpAny_fieldsOf g rfl ?_)
 dsimp only
 refine wpAny_bind (wpAny_setEntries_of ga rfl hf ?_)
 rw [if_neg (by simp)]
 refine wpAny_bind (hs _ _ _ ?_)
 cases r with
 | some p =>
   obtain ⟨x,next⟩:=p
   refine wpAny_bind (wpAny_setField g rfl (by show 0 < 5;decide) (wpAny_bind (wpAny_setField (itO_set0 g) rfl (by show 1 < 5;decide) (wpAny_pure ⟨x,rfl,wpAny_pure (h _ (itO_set1 (itO_set0 g)) fun b o hb e=>?_)⟩))))
   exact (Heap.SameBut.update _ I _).extBut b o hb ((Heap.SameBut.update _ I _).extBut b o hb e)
 | none =>
   refine wpAny_bind (wpAny_setField g rfl (by show 2 < 5;decide) ?_)
   refine stop_wp hh fun h' k=>?_
   exact h h' fun b o hb e=>k b o ((Heap.SameBut.update _ I _).extBut b o hb e)
theorem nx_tup {T:Addr} {ps:List Nat} (g:s.heap.get? I = some (itO (.ref T) i a es.size ep)) (ga:s.heap.get? a = some (setO es ep t)) (gT:s.heap.get? T = some (plO ps)) (hf:t.fits es.size = true) (hh:A.handled = none)
 (h:match ps[i]? with
   | some p=>∃ x,es[p]? = some x∧∀ h',h'.get? I = some (itO (.ref T) (i+1) a es.size ep)→(∀ b o,b≠I→s.heap.get? b = some o→h'.get? b = some o)→Q (some x.2) { s with heap:=h' }
   | none=>∀ h',(∀ b o,b≠I→s.heap.get? b = some o→h'.get? b = some o)→Q none { s with heap:=h' }) :
 wpAny (model prog w) A (pyNext (.ref I)) Q E s:=by
 unfold pyNext
 refine wpAny_bind (wpAny_attempt (wpAny_callSpecial?_slot (name:=Str.ofString "__next__") ⟨_,g,rfl⟩ slot_sn (wpAny_call_entry slot_sn ⟨_,g,rfl⟩ entry_sn ?_ (args_sn _))))
 unfold Builtin.«set_iterator.__next__»
 simp only [slotArgs,List.isEmpty_nil,Bool.not_true,Bool.false_eq_true,if_false,List.length_nil,bne_self_eq_false,pure_bind,bind_assoc]
 refine wpAny_bind (wpAny_fieldsOf g rfl ?_)
 dsimp only
 refine wpAny_bind (wpAny_setEntries_of ga rfl hf ?_)
 rw [if_neg (by simp)]
 refine wpAny_bind (wpAny_seqItems gT rfl ?_)
 dsimp only
 have e:((ps.map fun (i:Nat)=>rawInt i).toArray)[((i:Nat):Int).toNat]? = (ps[i]?).map fun (p:Nat)=>rawInt p:=by simp
 rw [e]
 cases hp:ps[i]? with
 | some p =>
   rw [hp] at h
   obtain ⟨x,hx,h⟩:=h
   simp only [Option.map_some,rawInt]
   unfold setNextDrawn
   simp only [bind_assoc,pure_bind]
   refine wpAny_bind (wpAny_setState_of ga rfl hf ?_)
   rw [if_neg (by simp)]
   simp only [Int.toNat_natCast,hx,pure_bind]
   refine wpAny_bind (wpAny_setField g rfl (by show 1 < 5;decide) (wpAny_pure ⟨x.2,rfl,wpAny_pure (h _ (itO_set1 g) fun b o hb e=>?_)⟩))
   exact (Heap.SameBut.update _ I _).extBut b o hb e
 | none =>
   rw [hp] at h
   simp only [Option.map_none]
   refine wpAny_bind (wpAny_setField g rfl (by show 0 < 5;decide) (wpAny_bind (wpAny_setField (itO_set0 g) rfl (by show 2 < 5;decide) ?_)))
   refine stop_wp hh fun h' k=>?_
   exact h h' fun b o hb e=>k b o ((Heap.SameBut.update _ I _).extBut b o hb ((Heap.SameBut.update _ I _).extBut b o hb e))
end
end
end PP
end
section
namespace PP
open PySem L2 PyProof.Rows
section
variable {prog:Program} {w:World} {A:Around} {E:Value→Shared→Prop} {s:Shared} {I a T:Addr} {es:Array (Int × Value)} {ep:Nat} {t:SetTable}
theorem walk_tup {ps:List Nat} (hh:A.handled = none) (h1:a≠I) (h2:T≠I) (hf:t.fits es.size = true) (hp:∀ p∈ps,p < es.size) :
 Walks prog w A I [I,a,T] [I] ps.length (fun i v=>∃ p x,ps[i]? = some p∧es[p]? = some x∧v = x.2) (fun i h=>h.get? I = some (itO (.ref T) i a es.size ep)∧h.get? a = some (setO es ep t)∧h.get? T = some (plO ps)) where
 sub:=fun b hb=>by simp at hb;simp [hb]
 frame:=fun _ _ _ st hk=>⟨hk I (by simp) _ st.1,hk a (by simp) _ st.2.1,hk T (by simp) _ st.2.2⟩
 item:=fun i s Q E hi st hQ=>by
  refine nx_tup (ps:=ps) st.1 st.2.1 st.2.2 hf hh ?_
  have e:ps[i]? = some ps[i]:=List.getElem?_eq_getElem hi
  obtain ⟨x,hx⟩:∃ x,es[ps[i]]? = some x:=⟨_,Array.getElem?_eq_getElem (hp _ (List.getElem_mem hi))⟩
  rw [e]
  exact ⟨x,hx,fun h' g' k=>hQ _ h' s.toks ⟨_,_,e,hx,rfl⟩ ⟨g',k a _ h1 st.2.1,k T _ h2 st.2.2⟩ fun b o hb z=>k b o (fun q=>hb (by simp [q])) z⟩
 done:=fun s Q E st hQ=>by
  refine nx_tup (ps:=ps) st.1 st.2.1 st.2.2 hf hh ?_
  have e:ps[ps.length]? = none:=by simp
  rw [e]
  exact fun h' k=>hQ h' s.toks fun b o hb z=>k b o (fun q=>hb (by simp [q])) z
 self:=fun _ _ _ _ st hQ=>it_self st.1 hQ
def txt (w:World) (a:Addr) (ep:Nat) (es:Array (Int × Value)):Array (Int × Value):=pickOrder (w.params.setOrder a ep) es
theorem walk_txt (hh:A.handled = none) (h1:a≠I) (hf:t.fits es.size = true) (hb:w.params.followText "set-order" = true) :
 Walks prog w A I [I,a] [I] es.size (fun i v=>∃ x,(txt w a ep es)[i]? = some x∧v = x.2) (fun i h=>(∃ slot:Nat,h.get? I = some (itO (.int slot 0) i a es.size ep))∧h.get? a = some (setO es ep t)):=by
 have hsz:(txt w a ep es).size = es.size:=by
  have:=(pick_perm (w.params.setOrder a ep) es).length_eq
  simpa [txt] using this
 have sn:∀ (A':Around) (s:Shared) (slot i:Nat) (Q':Option (Value × Nat)→Shared→Prop) (E':Value→Shared→Prop),s.heap.get? a = some (setO es ep t)→Q' (((txt w a ep es)[i]?).map fun e=>(e.2,slot)) s→wpAny (model prog w) A' (setNext a slot i ep) Q' E' s:=fun A' s slot i Q' E' ga q=>by
  unfold setNext setsByText
  simp only [bind_assoc,pure_bind]
  refine wpAny_bind (wpAny_setState_of ga rfl hf (wpAny_bind (wpAny_askSetting ?_)))
  rw [show ((model prog w).w.params.followText "set-order") = true from hb]
  simp only [if_true,bne_self_eq_false,Bool.false_eq_true,if_false]
  unfold setWalk setsByText
  simp only [bind_assoc,pure_bind]
  refine wpAny_bind (wpAny_setState_of ga rfl hf (wpAny_bind (wpAny_askSetting ?_)))
  rw [show ((model prog w).w.params.followText "set-order") = true from hb]
  simp only [if_true,bind_assoc,pure_bind]
  exact wpAny_bind (wpAny_askSetting (wpAny_pure q))
 exact {
  sub:=fun b hb=>by simp at hb;simp [hb]
  frame:=fun _ _ _ st hk=>⟨st.1.imp fun slot e=>hk I (by simp) _ e,hk a (by simp) _ st.2⟩
  item:=fun i s Q E hi st hQ=>by
   obtain ⟨slot,g⟩:=st.1
   have e:(txt w a ep es)[i]? = some ((txt w a ep es)[i]'(by omega)):=Array.getElem?_eq_getElem _
   refine nx_int (slot:=slot) (r:=some (((txt w a ep es)[i]'(by omega)).2,slot)) g st.2 hf hh (fun A' Q' E' q=>sn A' s slot i Q' E' st.2 (by rw [e];exact q)) fun h' g' k=>?_
   exact hQ _ h' s.toks ⟨_,e,rfl⟩ ⟨⟨slot,g'⟩,k a _ h1 st.2⟩ fun b o hb z=>k b o (fun q=>hb (by simp [q])) z
  done:=fun s Q E st hQ=>by
   obtain ⟨slot,g⟩:=st.1
   have e:(txt w a ep es)[es.size]? = none:=by rw [← hsz];simp
   refine nx_int (slot:=slot) (r:=none) g st.2 hf hh (fun A' Q' E' q=>sn A' s slot es.size Q' E' st.2 (by rw [e];exact q)) fun h' k=>?_
   exact hQ h' s.toks fun b o hb z=>k b o (fun q=>hb (by simp [q])) z
  self:=fun _ _ _ _ st hQ=>it_self st.1.choose_spec hQ }
theorem below_ok (p:Array Nat) (hp:p.size≤1) (slot:Nat):SetTable.below p slot = if p.any (· < slot) = true then 1 else 0:=by
 match p,hp with
 | ⟨[]⟩,_=>simp [SetTable.below,SetTable.below.go]
 | ⟨[j]⟩,_ =>
   by_cases h:j < slot
   · simp [SetTable.below,SetTable.below.go,h]
   · simp [SetTable.below,SetTable.below.go,h]
 | ⟨_::_::_⟩,h=>simp at h
theorem walk_one (hh:A.handled = none) (h1:a≠I) (hf:t.fits es.size = true) (hb:w.params.followText "set-order" = false) (hl:t.led = true) (hz:es.size≤1) :
 Walks prog w A I [I,a] [I] es.size (fun i v=>∃ x,es[i]? = some x∧v = x.2) (fun i h=>(∃ slot:Nat,h.get? I = some (itO (.int slot 0) i a es.size ep)∧(i = 0→slot = 0)∧(1≤i→t.place.any (· < slot) = true))∧h.get? a = some (setO es ep t)):=by
 have hp:t.place.size = es.size:=by
  have:=hf
  simp only [SetTable.fits,Bool.and_eq_true,beq_iff_eq] at this
  exact this.1
 have sn:∀ (A':Around) (s:Shared) (slot i:Nat) (Q':Option (Value × Nat)→Shared→Prop) (E':Value→Shared→Prop),s.heap.get? a = some (setO es ep t) →
  Q' (match es[SetTable.below t.place slot]?,t.place[SetTable.below t.place slot]? with | some (_,x),some j=>some (x,j+1) | _,_=>none) s→wpAny (model prog w) A' (setNext a slot i ep) Q' E' s:=fun A' s slot i Q' E' ga q=>by
  unfold setNext setsByText
  simp only [bind_assoc,pure_bind]
  refine wpAny_bind (wpAny_setState_of ga rfl hf (wpAny_bind (wpAny_askSetting ?_)))
  rw [show ((model prog w).w.params.followText "set-order") = false from hb]
  simp only [Bool.false_eq_true,if_false]
  refine wpAny_of_eq (a:=(match es[SetTable.below t.place slot]?,t.place[SetTable.below t.place slot]? with | some (_,x),some j=>some (x,j+1) | _,_=>none)) ?_ q
  rw [if_neg (by show ¬ ((!t.plain && decide (es.size > 1)) = true);simp;omega)]
  show ((if (!t.led && !es.isEmpty) = true then unsupported _ else pure ()) >>= fun _=>pure _:Sem _) = _
  rw [hl]
  rfl
 exact {
  sub:=fun b hb=>by simp at hb;simp [hb]
  frame:=fun _ _ _ st hk=>⟨st.1.imp fun slot e=>⟨hk I (by simp) _ e.1,e.2⟩,hk a (by simp) _ st.2⟩
  item:=fun i s Q E hi st hQ=>by
   obtain ⟨slot,g,z0,z1⟩:=st.1
   have i0:i = 0:=by omega
   subst i0
   have s0:=z0 rfl
   subst s0
   have b0:SetTable.below t.place 0 = 0:=by rw [below_ok _ (by omega)];simp
   have e:es[0]? = some (es[0]'hi):=Array.getElem?_eq_getElem _
   have ej:t.place[0]? = some (t.place[0]'(by omega)):=Array.getElem?_eq_getElem _
   refine nx_int (slot:=0) (r:=some ((es[0]'hi).2,t.place[0]'(by omega)+1)) g st.2 hf hh (fun A' Q' E' q=>sn A' s 0 0 Q' E' st.2 (by rw [b0,e,ej];exact q)) fun h' g' k=>?_
   refine hQ _ h' s.toks ⟨_,e,rfl⟩ ⟨⟨_,g',fun z=>by omega,fun _=>?_⟩,k a _ h1 st.2⟩ fun b o hb z=>k b o (fun q=>hb (by simp [q])) z
   rw [Array.any_eq_true]
   exact ⟨0,by omega,by simp⟩
  done:=fun s Q E st hQ=>by
   obtain ⟨slot,g,z0,z1⟩:=st.1
   have e:es[SetTable.below t.place slot]? = none:=by
    rw [below_ok _ (by omega)]
    rcases Nat.lt_or_ge 0 es.size with q | q
    · rw [if_pos (z1 (by omega))]
      exact Array.getElem?_eq_none (by omega)
    · exact Array.getElem?_eq_none (by split<;>omega)
   refine nx_int (slot:=slot) (r:=none) g st.2 hf hh (fun A' Q' E' q=>sn A' s slot es.size Q' E' st.2 (by rw [e];exact q)) fun h' k=>?_
   exact hQ h' s.toks fun b o hb z=>k b o (fun q=>hb (by simp [q])) z
  self:=fun _ _ _ _ st hQ=>it_self st.1.choose_spec.1 hQ }
def SetW (w:World) (a:Addr) (xs:List Value) (h:Heap):Prop:=∃ (es:Array (Int × Value)) (ep:Nat) (t:SetTable),
 h.get? a = some { cls:=.type "set",dict:=none,data:=.set es ep t,slots := #[] }∧t.fits es.size = true∧t.led = (!w.params.followText "set-order")∧(es.size = 0∨t.plain = false)∧(es.toList.map (·.2)).Perm xs
theorem set_walk {xs:List Value} {Q:Value→Shared→Prop} (hh:A.handled = none) (hS:SetW w a xs s.heap) (hz:xs.length < 1000)
 (h:∀ (I:Addr) (fp:List Addr) (n:Nat) (P:Nat→Value→Prop) (St:Nat→Heap→Prop) (us:List Value) d h',Walks prog w A I fp [I] n P St→us.length = n→St 0 h'→(∀ b∈fp,b < h'.objs.size)→(∀ b o,s.heap.get? b = some o→b≠I∧h'.get? b = some o)→us.Perm xs→(∀ i v,P i v→us[i]? = some v)→(∀ b∈fp,b = a∨s.heap.objs.size≤b) →
   Q (.ref I) { s with drawn:=d,heap:=h' }):wpAny (model prog w) A (pyIter (.ref a)) Q E s:=by
 obtain ⟨es,ep,t,g,hf,hl,hp,hu⟩:=hS
 have hsz:es.size = xs.length:=by rw [← hu.length_eq];simp
 have ha:a < s.heap.objs.size:=Heap.lt_size g
 have pe:∀ (vs:List (Int × Value)),vs.Perm es.toList→∃ us':List Value,us'.Perm xs∧us'.length = es.size∧∀ (i:Nat) (x:Int × Value),vs[i]? = some x→us'[i]? = some x.2:=fun vs pv =>
  ⟨vs.map (·.2),(pv.map _).trans hu,by rw [List.length_map,pv.length_eq,Array.length_toList],fun i x hx=>by rw [List.getElem?_map,hx];rfl⟩
 refine iter_set g hf (fun hm=>?_) (fun hb ps d pp=>?_) (by omega) hp
 · cases hb:w.params.followText "set-order" with
   | true =>
     obtain ⟨us',p',l',q'⟩:=pe (txt w a ep es).toList (pick_perm _ _)
     refine h s.heap.objs.size [s.heap.objs.size,a] es.size _ _ us' s.drawn _ (walk_txt (ep:=ep) (I:=s.heap.objs.size) hh (Nat.ne_of_lt ha) hf hb) l' ⟨⟨0,Heap.get?_push_size _ rfl⟩,Heap.get?_push_of_some _ g⟩ (fun b hb=>?_) (fun b o e=>⟨Nat.ne_of_lt (Heap.lt_size e),Heap.get?_push_of_some _ e⟩) p' (fun i v ⟨x,hx,hv⟩=>?_) (fun b hb=>by simp at hb;rcases hb with rfl | rfl;exact .inr (Nat.le_refl _);exact .inl rfl)
     · rw [Heap.size_push]
       simp at hb
       rcases hb with rfl | rfl
       · exact Nat.lt_succ_self _
       · exact Nat.lt_succ_of_lt ha
     · rw [hv]
       exact q' i x (by simpa using hx)
   | false =>
     have h1:es.size≤1:=by
      rcases hm with z | z
      · rw [hb] at z;cases z
      · exact z
     obtain ⟨us',p',l',q'⟩:=pe es.toList (.refl _)
     refine h s.heap.objs.size [s.heap.objs.size,a] es.size _ _ us' s.drawn _ (walk_one (ep:=ep) (I:=s.heap.objs.size) hh (Nat.ne_of_lt ha) hf hb (by rw [hl,hb];rfl) h1) l' ⟨⟨0,Heap.get?_push_size _ rfl,fun _=>rfl,fun z=>by omega⟩,Heap.get?_push_of_some _ g⟩ (fun b hb=>?_) (fun b o e=>⟨Nat.ne_of_lt (Heap.lt_size e),Heap.get?_push_of_some _ e⟩) p' (fun i v ⟨x,hx,hv⟩=>?_) (fun b hb=>by simp at hb;rcases hb with rfl | rfl;exact .inr (Nat.le_refl _);exact .inl rfl)
     · rw [Heap.size_push]
       simp at hb
       rcases hb with rfl | rfl
       · exact Nat.lt_succ_self _
       · exact Nat.lt_succ_of_lt ha
     · rw [hv]
       exact q' i x (by simpa using hx)
 · have hps:∀ p∈ps,p < es.size:=fun p hp=>by simpa using pp.mem_iff.mp hp
   have hpl:ps.length = es.size:=by rw [pp.length_eq];simp
   have pv:(ps.filterMap fun p=>es[p]?).Perm es.toList:=by
    have:=pp.filterMap fun p=>es[p]?
    rwa [filterMap_getElem?_range] at this
   have ev:∀ (ps:List Nat),(∀ p∈ps,p < es.size)→∀ (i p:Nat),ps[i]? = some p→(ps.filterMap fun p=>es[p]?)[i]? = es[p]? := fun ps=>by
    induction ps with
    | nil=>intro _ i p e;simp at e
    | cons q qs ih =>
      intro hq i p e
      have hq0:es[q]? = some (es[q]'(hq q List.mem_cons_self)):=Array.getElem?_eq_getElem _
      rw [List.filterMap_cons_some hq0]
      cases i with
      | zero=>simp at e;subst e;simp [hq0]
      | succ i=>simpa using ih (fun p hp=>hq p (List.mem_cons_of_mem _ hp)) i p (by simpa using e)
   obtain ⟨us',p',l',q'⟩:=pe _ pv
   have W:=walk_tup (prog:=prog) (w:=w) (A:=A) (ep:=ep) (a:=a) (I:=s.heap.objs.size+1) (T:=s.heap.objs.size) hh (Nat.ne_of_lt (Nat.lt_succ_of_lt ha)) (Nat.ne_of_lt (Nat.lt_succ_self _)) hf hps
   have sz:((s.heap.push (plO ps)).push (itO (.ref s.heap.objs.size) 0 a es.size ep)).objs.size = s.heap.objs.size+1+1:=by rw [Heap.size_push,Heap.size_push]
   refine h (s.heap.objs.size+1) [s.heap.objs.size+1,a,s.heap.objs.size] ps.length _ _ us' d _ W (l'.trans hpl.symm) ⟨?_,Heap.get?_push_of_some _ (Heap.get?_push_of_some _ g),Heap.get?_push_of_some _ (Heap.get?_push_size _ rfl)⟩ (fun b hb=>?_) (fun b o e=>⟨Nat.ne_of_lt (Nat.lt_succ_of_lt (Heap.lt_size e)),Heap.get?_push_of_some _ (Heap.get?_push_of_some _ e)⟩) p' (fun i v ⟨p,x,e1,e2,hv⟩=>?_) (fun b hb=>by simp at hb;rcases hb with rfl | rfl | rfl;exact .inr (Nat.le_succ _);exact .inl rfl;exact .inr (Nat.le_refl _))
   · have:((s.heap.push (plO ps)).push (itO (.ref s.heap.objs.size) 0 a es.size ep)).get? (s.heap.push (plO ps)).objs.size = _:=Heap.get?_push_size _ rfl
     rwa [Heap.size_push] at this
   · show b < ((s.heap.push (plO ps)).push (itO (.ref s.heap.objs.size) 0 a es.size ep)).objs.size
     rw [sz]
     simp at hb
     rcases hb with rfl | rfl | rfl
     · exact Nat.lt_succ_self _
     · exact Nat.lt_succ_of_lt (Nat.lt_succ_of_lt ha)
     · exact Nat.lt_succ_of_lt (Nat.lt_succ_self _)
   · rw [hv]
     exact q' i x (by rw [ev ps hps i p e1];exact e2)
end
end PP
end
section
namespace PP
open PySem L2 PyProof.Rows
section
variable {prog:Program} {w:World} {A:Around} {E:Value→Shared→Prop} {s:Shared} {a:Addr}
theorem len_look:typeLookup (.type "set") "__len__" = pure (some (.builtin "set.__len__")):=PySem.F.slot_set_len.lookup
theorem list_of {α:Type}:∀ {us vs:List α},us.length = vs.length→(∀ (j:Nat) (v:α),vs[j]? = some v→us[j]? = some v)→us = vs
 | [],[],_,_=>rfl
 | [],_::_,h,_=>by simp at h
 | _::_,[],h,_=>by simp at h
 | u::us,v::vs,h,q=>by
   have e:=q 0 v rfl
   simp at e
   subst e
   rw [list_of (by simpa using h) fun j x hj=>q (j+1) x (by simpa using hj)]
theorem codeP {id:String} {args:Args} {b:Builtin} {R:Result→Shared→Prop} (hb:entryFor table id = some b) (hp:plainId id = true)
 (h:wpAny (model prog w) A.in1 (b args) (fun fin s'=>match fin with | .done f=>R (.ok f) s' | .again c'=>c'.quiet = true∧codeAny (model prog w) A c' R s') (fun e s'=>R (.error e) s') s):codeAny (model prog w) A (.builtin id args) R s :=
 codeAny_builtin hb (by rw [Around.under_plainId hp args];exact h)
theorem collect_any {xs:List Value} {Q:List Value→Shared→Prop} (hh:A.handled = none) (hS:SetW w a xs s.heap) (hz:xs.length < 1000)
 (h:∀ (vs:List Value) d tk h',vs.Perm xs→(∀ b o,s.heap.get? b = some o→h'.get? b = some o)→Q vs { s with drawn:=d,toks:=tk,heap:=h' }) :
 wpAny (model prog w) A (collect (.ref a)) Q E s:=by
 have ha:a < s.heap.objs.size:=by obtain ⟨es,ep,t,g,_⟩:=hS;exact Heap.lt_size g
 have hsa:s.heap.objs.size≠a:=fun z=>Nat.lt_irrefl _ (by rw [z] at ha;exact ha)
 unfold collect
 refine wpAny_bind (wpAny_runValue (codeP F.entry_proto_collect F.plain_proto_collect ?_))
 show wpAny _ A.in1 (newList [] >>= fun l=>again (.builtin "list.__iadd__" ⟨[l,.ref a],[]⟩)) _ _ s
 refine wpAny_bind (wpAny_newObj_type (wpAny_pure ⟨plainId_quiet F.plain_list_iadd _,codeP F.entry_list_iadd F.plain_list_iadd ?_⟩))
 generalize ho:({ cls:=.type "list",data:=.seq ([]:List Value).toArray }:Obj) = lo
 have g0:(s.heap.push lo).get? s.heap.objs.size = some lo:=Heap.get?_push_size _ (by rw [← ho];rfl)
 have hS1:SetW w a xs (s.heap.push lo):=by
  obtain ⟨es,ep,t,g,r⟩:=hS
  exact ⟨es,ep,t,Heap.get?_push_of_some _ g,r⟩
 have hT:({ s with heap:=s.heap.push lo }:Shared).TypeIs (.ref a) "set":=by
  obtain ⟨es,ep,t,g,r⟩:=hS1
  exact ⟨_,g,rfl⟩
 show wpAny _ A.in1 (Builtin.List.listExtendWith (.ref s.heap.objs.size) (.ref a) (.ref s.heap.objs.size)) _ _ _
 unfold Builtin.List.listExtendWith
 refine wpAny_bind (wpAny_typeOf hT ?_)
 have nr:Builtin.List.listSameRef (.ref s.heap.objs.size) (.ref a) = false:=by simp [Builtin.List.listSameRef,hsa]
 rw [if_neg (by rw [nr];decide)]
 refine wpAny_bind (set_walk (A:=A.in1) hh hS1 hz fun I fp n P St us d h2 W hn st hf hk hu hP hfp=>?_)
 refine wpAny_bind (wpAny_holding ?_)
 unfold Builtin.List.listLengthHint
 have hT2:({ s with heap:=h2,drawn:=d }:Shared).TypeIs (.ref a) "set":=by
  obtain ⟨es,ep,t,g,r⟩:=hS1
  exact ⟨_,(hk _ _ g).2,rfl⟩
 refine wpAny_bind (wpAny_specialOf hT2 len_look ?_)
 dsimp only
 rw [show splitId "set.__len__" = some ("set","__len__") from by decide +kernel]
 dsimp only
 refine wpAny_bind (wpAny_isInstance (b:=true) hT2 (by rw [isSubtype_type];kernel_rfl) ?_)
 rw [if_neg (by decide),if_pos (by kernel_rfl)]
 refine wpAny_bind (wpAny_typeOf hT2 (wpAny_pure ?_))
 rw [if_pos (by decide +kernel)]
 have gS:h2.get? s.heap.objs.size = some lo:=(hk _ _ g0).2
 subst ho
 have hSf:s.heap.objs.size∉fp:=fun hm=>by
  rcases hfp _ hm with z | z
  · exact hsa z
  · rw [show ({ s with heap:=s.heap.push _ }:Shared).heap.objs.size = s.heap.objs.size+1 from Heap.size_push ..] at z
    exact Nat.lt_irrefl _ z
 have g3:=get?_update_seq gS fun xs=>xs.push Value.none
 have g4:=get?_update_seq g3 fun xs=>xs.pop
 refine wpAny_bind (wpAny_rule (wpAny_bind ?_))
 unfold Builtin.List.listTouch
 refine wpAny_bind (listUpdate_at gS rfl (listUpdate_at (s:={ s with drawn:=d,heap:=h2.update s.heap.objs.size (Obj.mapSeq fun xs=>xs.push Value.none) }) g3 rfl ?_ (by rw [sizeLine_eq];simp) (by rw [sizeLine_eq];simp)) (by rw [sizeLine_eq];simp) (by rw [sizeLine_eq];simp))
 have up:∀ {h:Heap} {f:Obj→Obj} {b:Addr} {o:Obj},b≠s.heap.objs.size→h.get? b = some o→(h.update s.heap.objs.size f).get? b = some o:=fun hb e=>(Heap.get?_update_other _ _ (Ne.symm hb)).trans e
 have st4:=W.frame 0 _ ((h2.update s.heap.objs.size (Obj.mapSeq fun xs=>xs.push Value.none)).update s.heap.objs.size (Obj.mapSeq fun xs=>xs.pop)) st fun b hb o e=>up (fun z=>hSf (z▸hb)) (up (fun z=>hSf (z▸hb)) e)
 refine wpAny_pure ⟨plainId_quiet F.plain_extend_loop _,codeAny_extend_loopS W.toS (by rw [← hn,hu.length_eq,sizeLine_eq];omega) _ hSf _ n 0 _ #[] _ rfl (Nat.zero_le _) st4 g4 (ItemsOf.nil P) fun s' acc c hm hS' hac=>?_⟩
 show wpAny _ A (load s.heap.objs.size >>= _) _ _ s'
 refine wpAny_bind (wpAny_load hS' (wpAny_pure ?_))
 obtain ⟨hp',gn',dr',tk',os'⟩:=s'
 obtain ⟨m1,m2,m3,m4,m5⟩:=hm
 obtain rfl:gn' = s.gens:=m2
 obtain rfl:dr' = d:=m3
 obtain rfl:os' = s.os:=m4
 have ea:us = acc.toList:=list_of (hn.trans (hac.1.symm.trans Array.length_toList.symm)) fun j v hj=>hP j v (hac.2 j v (by simpa using hj))
 refine h acc.toList _ tk' hp' (by rw [← ea];exact hu) fun b o e=>?_
 have hb:b≠s.heap.objs.size:=Nat.ne_of_lt (Heap.lt_size e)
 have hb2:=hk b o (Heap.get?_push_of_some _ e)
 exact m1 b o (by simp [hb,hb2.1]) (up hb (up hb hb2.2))
theorem pair_perm {α β:Type} {R:α→β→Prop} {ys' ys:List β} (p:List.Perm ys' ys):∀ xs,Paired R xs ys→∃ xs',xs'.Perm xs∧Paired R xs' ys':=by
 induction p with
 | nil=>intro us r;exact ⟨us,.refl _,r⟩
 | cons x _ ih =>
   intro us r
   cases r with
   | cons r t =>
     obtain ⟨us',p',r'⟩:=ih _ t
     exact ⟨_,p'.cons _,.cons r r'⟩
 | swap x y l =>
   intro us r
   cases r with
   | cons r1 t =>
     cases t with
     | cons r2 t=>exact ⟨_,.swap _ _ _,.cons r2 (.cons r1 t)⟩
 | trans _ _ i1 i2 =>
   intro us r
   obtain ⟨u1,p1,r1⟩:=i2 us r
   obtain ⟨u2,p2,r2⟩:=i1 u1 r1
   exact ⟨u2,p2.trans p1,r2⟩
end
end PP
end
section
namespace PP
open PySem L2 PyProof.Rows PySem.SeqAt
def SetA (w:World) (a:Addr) (xs:List (Int × Value)) (h:Heap):Prop:=∃ (es:Array (Int × Value)) (ep:Nat) (t:SetTable),
 h.get? a = some { cls:=.type "set",dict:=none,data:=.set es ep t,slots := #[] }∧TbI t (es.toList.map (·.1))∧t.led = (!w.params.followText "set-order")∧(es.size = 0∨t.plain = false)∧es.toList.Perm xs∧es.size * 5 < t.mask * 3
theorem grow_mask {m n:Nat} (hm:mk m) (h1:n≤64) (h2:n≤m) (h3:n * 5 ≥ m * 3):mk (SetTable.sizeAbove (SetTable.grown n) - 1)∧n≤SetTable.sizeAbove (SetTable.grown n) - 1∧SetTable.sizeAbove (SetTable.grown n)≤128∧n * 5 < (SetTable.sizeAbove (SetTable.grown n) - 1) * 3:=by
 have key:∀ m n:Nat,(m = 7∨m = 31∨m = 127)→n < 65→n≤m→n * 5 ≥ m * 3→(SetTable.sizeAbove (SetTable.grown n) - 1 = 7∨SetTable.sizeAbove (SetTable.grown n) - 1 = 31∨SetTable.sizeAbove (SetTable.grown n) - 1 = 127)∧n≤SetTable.sizeAbove (SetTable.grown n) - 1∧SetTable.sizeAbove (SetTable.grown n)≤128∧n * 5 < (SetTable.sizeAbove (SetTable.grown n) - 1) * 3:=by
  have k7:∀ n < 65,n≤7→n * 5 ≥ 7 * 3→(SetTable.sizeAbove (SetTable.grown n) - 1 = 7∨SetTable.sizeAbove (SetTable.grown n) - 1 = 31∨SetTable.sizeAbove (SetTable.grown n) - 1 = 127)∧n≤SetTable.sizeAbove (SetTable.grown n) - 1∧SetTable.sizeAbove (SetTable.grown n)≤128∧n * 5 < (SetTable.sizeAbove (SetTable.grown n) - 1) * 3:=by decide +kernel
  have k31:∀ n < 65,n≤31→n * 5 ≥ 31 * 3→(SetTable.sizeAbove (SetTable.grown n) - 1 = 7∨SetTable.sizeAbove (SetTable.grown n) - 1 = 31∨SetTable.sizeAbove (SetTable.grown n) - 1 = 127)∧n≤SetTable.sizeAbove (SetTable.grown n) - 1∧SetTable.sizeAbove (SetTable.grown n)≤128∧n * 5 < (SetTable.sizeAbove (SetTable.grown n) - 1) * 3:=by decide +kernel
  rintro m n (rfl | rfl | rfl) a b c
  · exact k7 n a b c
  · exact k31 n a b c
  · omega
 exact key m n hm (by omega) h2 h3
variable [Tbs]
section
variable {prog:Program} {w:World} {A:Around} {E:Value→Shared→Prop} {s:Shared}
theorem put_tail {a:Addr} {es es1:Array (Int × Value)} {ep:Nat} {t t2:SetTable} {xs:List (Int × Value)} {Q:Bool→Shared→Prop} (g:s.heap.get? a = some { cls:=.type "set",dict:=none,data:=.set es ep t,slots := #[] })
 (T:TbI t2 (es1.toList.map (·.1))) (hl:t2.led = (!w.params.followText "set-order")) (hp:t2.plain = false) (hq:es1.toList.Perm xs) (hr:xs.length≤64) (hn:es1.size = es.size+1)
 (fin:∀ h',Heap.SameBut a s.heap h'→SetA w a xs h'→Q true { s with heap:=h' }) :
 wpAny (model prog w) A (do
  storeSet a es1 t2
  if (!false && t2.tooFull) = true then do
   setRelay a (SetTable.grown (es.size+1))
   pure true
  else pure true) Q E s:=by
 have hsz:es1.size = xs.length:=by rw [← Array.length_toList,hq.length_eq]
 have k1:=set_put (es':=es1) (t':=t2) g
 have sb1:=Heap.SameBut.update s.heap a (Obj.putSet es1 t2)
 have z1:es1.size < scanBound:=Nat.lt_of_le_of_lt (show es1.size≤64 by omega) (by decide)
 refine wpAny_bind (wpAny_storeSet_of g rfl ?_ (fits_of_scanBound z1))
 split
 · rename_i hf
   have hf':t2.place.size * 5 ≥ t2.mask * 3:=by
    have:t2.tooFull = true:=hf
    unfold SetTable.tooFull SetTable.fill at this
    rw [T.dm] at this
    simpa using this
   have hpl:t2.place.size = es1.size:=by have:=T.len;simpa using this
   have hfew:es1.size≤t2.mask:=by have:=T.few;simpa using this
   obtain ⟨m1,m2,m3,m4⟩:=grow_mask T.mok (n:=es1.size) (by omega) hfew (by omega)
   rw [← hn]
   unfold setRelay
   refine wpAny_bind (wpAny_bind (wpAny_setState_of (s:={ s with heap:=s.heap.update a (Obj.putSet es1 t2) }) k1 rfl (fits_of T (by simp)) ?_))
   dsimp only
   rw [if_neg (by rw [sizeLine_eq];omega)]
   obtain ⟨t3,order,e,po,T3,l3,p3,mm3⟩:=laid_ok m1 t2.finger (t2.movedTo (SetTable.sizeAbove (SetTable.grown es1.size) - 1)) t2.led t2.plain (es1.map (·.1)) (by simpa using m2)
   have hz:(es1.map (·.1)).size = es1.size:=by simp
   rw [hz] at po
   have pe:(order.filterMap (es1[·]?)).toList.Perm es1.toList:=by
    have:=po.filterMap (es1[·]?)
    rw [filterMap_getElem?_range] at this
    rw [Array.toList_filterMap]
    exact this
   have sz3:(order.filterMap (es1[·]?)).size = es1.size:=by
    rw [← Array.length_toList,pe.length_eq,Array.length_toList]
   have T3':TbI t3 ((order.filterMap (es1[·]?)).toList.map (·.1)):=by
    have:(order.filterMap (es1[·]?)).toList.map (·.1) = order.toList.filterMap ((es1.map (·.1))[·]?):=by
     rw [Array.toList_filterMap,List.map_filterMap]
     congr 1
     funext k
     simp
    rw [this]
    exact T3
   refine wpAny_bind (wpAny_of_eq (a:=(order.filterMap (es1[·]?),t3)) ?_ ?_)
   · rw [show t2.relaid (es1.map (·.1)) (SetTable.grown es1.size) = some (t3,order) from e]
     show (if ((order.filterMap (es1[·]?)).size != es1.size) = true then _ else _) = _
     rw [if_neg (by rw [sz3];simp)]
   · dsimp only
     refine wpAny_storeSet_of (s:={ s with heap:=s.heap.update a (Obj.putSet es1 t2) }) k1 rfl ?_ (fits_of_scanBound (by rw [sz3];exact z1))
     refine wpAny_pure (fin _ (sb1.trans (Heap.SameBut.update _ a _)) ⟨_,_,t3,set_put k1,T3',l3.trans hl,.inr (p3.trans hp),pe.trans hq,by rw [sz3,mm3];exact m4⟩)
 · rename_i hf
   refine wpAny_pure (fin _ sb1 ⟨es1,_,t2,k1,T,hl,.inr hp,hq,?_⟩)
   have hpl:t2.place.size = es1.size:=by have:=T.len;simpa using this
   have:¬ (t2.tooFull = true):=hf
   unfold SetTable.tooFull SetTable.fill at this
   rw [T.dm] at this
   simp at this
   omega
theorem setAdd_D {a:Addr} {xs:List (Int × Value)} {ds:List D} {d:D} {x:Value} {Q:Bool→Shared→Prop} (hu:A.units+20 < cLine) (hS:SetA w a xs s.heap) (he:EntD w s.heap ds xs) (hx:hok d = true) (rx:RdV s.heap d x) (hr:xs.length+1≤64)
 (old:d∈ds→Q false { s with toks:=s.toks+nD d }) (new:d∉ds→∀ h',Heap.SameBut a s.heap h'→SetA w a (xs++[(hD w d,x)]) h'→Q true { s with heap:=h',toks:=s.toks+nD d }):wpAny (model prog w) A (setAdd a x) Q E s:=by
 obtain ⟨es,ep,t,g,T,hl,hp,hq,hmk⟩:=hS
 obtain ⟨hb1,hd1,_⟩:=hok_inv hx
 obtain ⟨b,rfl⟩:=hok_ref hx rx
 obtain ⟨us,pu,hu'⟩:=pair_perm hq ds he
 have hsz:es.size = xs.length:=by rw [← Array.length_toList,hq.length_eq]
 have hf:t.fits es.size = true:=fits_of T (by simp)
 unfold setAdd
 refine wpAny_holding (wpAny_bind (hash_D d A E s _ _ hb1 rx (by omega) ?_))
 unfold setAddHashed
 refine wpAny_holding ?_
 show wpAny _ _ (setAddHashedIn a (.ref b) (hD w d) (99999+1)) _ _ _
 unfold setAddHashedIn
 refine wpAny_bind (wpAny_setState_of (s:={ s with toks:=s.toks+nD d }) g rfl hf ?_)
 dsimp only
 rw [if_neg (by unfold byScan;simp [Value.scannable])]
 refine wpAny_bind (search_D (s:={ s with toks:=s.toks+nD d }) hu g T hu' hx rx (fun hm=>wpAny_pure (old (pu.mem_iff.mp hm))) fun hm N n1 n2=>?_)
 dsimp only
 refine wpAny_bind (wpAny_setState_of (s:={ s with toks:=s.toks+nD d }) g rfl hf ?_)
 have few:es.size+1≤t.mask:=by
  rcases T.mok with z | z | z<;>omega
 obtain ⟨T1,p1,l1,pl1,m1⟩:=T.put n1 n2 (by simpa using few)
 dsimp only
 have le:(SetTable.insertAt es (t.put (ps t.mask (hD w d) N)).2 (hD w d,Value.ref b)).toList = insL es.toList (t.put (ps t.mask (hD w d) N)).2 (hD w d,Value.ref b):=SetTable.toList_insertAt _ _ _
 have lh:(SetTable.insertAt es (t.put (ps t.mask (hD w d) N)).2 (hD w d,Value.ref b)).toList.map (·.1) = insL (es.toList.map (·.1)) (t.put (ps t.mask (hD w d) N)).2 (hD w d):=by
  rw [le]
  unfold insL
  rw [List.map_append,List.map_cons,List.map_take,List.map_drop]
 rw [← lh] at T1
 have pe:(SetTable.insertAt es (t.put (ps t.mask (hD w d) N)).2 (hD w d,Value.ref b)).toList.Perm (xs++[(hD w d,Value.ref b)]):=by
  refine (SetTable.insertAt_perm _ _ _).trans ?_
  rw [Array.toList_push]
  exact hq.append (.refl _)
 have sn:(SetTable.insertAt es (t.put (ps t.mask (hD w d) N)).2 (hD w d,Value.ref b)).size = es.size+1:=by
  rw [← Array.length_toList,le,insL_len,Array.length_toList]
 have fin:∀ h',Heap.SameBut a s.heap h'→SetA w a (xs++[(hD w d,Value.ref b)]) h'→Q true { s with heap:=h',toks:=s.toks+nD d }:=new fun z=>hm (pu.mem_iff.mpr z)
 have hr':(xs++[(hD w d,Value.ref b)]).length≤64:=by rw [List.length_append,List.length_singleton];exact hr
 by_cases hpl:(t.put (ps t.mask (hD w d) N)).1.plain = true
 · rw [if_pos hpl]
   refine wpAny_bind (byValue_D (s:={ s with toks:=s.toks+nD d }) hx rx ?_)
   exact put_tail (s:={ s with toks:=s.toks+nD d }) (t2:={ (t.put (ps t.mask (hD w d) N)).1 with plain:=false }) g ⟨T1.mok,T1.dm,T1.srt,T1.le,T1.len,T1.few,T1.rch⟩ (l1.trans hl) rfl pe hr' sn fin
 · rw [if_neg hpl]
   refine wpAny_bind (wpAny_pure ?_)
   exact put_tail (s:={ s with toks:=s.toks+nD d }) (t2:=(t.put (ps t.mask (hD w d) N)).1) g T1 (l1.trans hl) (by simpa using hpl) pe hr' sn fin
end
end PP
end
section
namespace PP
open PySem L2 PyProof.Rows PySem.W
def ltS (a b:Str):Bool:=decide (a.cps.toList < b.cps.toList)
theorem ltS_as (a b:Str) (h:ltS a b = true):ltS b a = false:=by
 unfold ltS at h ⊢
 rw [decide_eq_true_eq] at h
 rw [decide_eq_false_iff_not]
 exact List.lt_asymm h
theorem ltS_tr (a b c:Str) (h1:ltS b a = false) (h2:ltS c b = false):ltS c a = false:=by
 unfold ltS at h1 h2 ⊢
 rw [decide_eq_false_iff_not] at h1 h2 ⊢
 exact List.le_trans h1 h2
theorem ltS_eq (a b:Str) (h1:ltS a b = false) (h2:ltS b a = false):a = b:=by
 unfold ltS at h1 h2
 rw [decide_eq_false_iff_not] at h1 h2
 have:=List.le_antisymm h2 h1
 obtain ⟨⟨x⟩⟩:=a
 obtain ⟨⟨y⟩⟩:=b
 simp at this
 rw [this]
theorem up_pair {α:Type} [Inhabited α] {lt:α→α→Bool} {ys:List α} (h:∀ i j,i≤j→j < ys.length→lt (ys.getD j default) (ys.getD i default) = false):ys.Pairwise fun a b=>lt b a = false:=by
 rw [List.pairwise_iff_getElem]
 intro i j hi hj hij
 have:=h i j (Nat.le_of_lt hij) hj
 simpa [List.getD,List.getElem?_eq_getElem hi,List.getElem?_eq_getElem hj] using this
variable [Tbs]
end PP
end
section
namespace PP
open PySem PySem.Spec L2 PyProof.Rows
section
variable {prog:Program} {w:World} {A:Around} {R:Result→Shared→Prop} {s:Shared}
end
end PP
end
section
namespace PP
open PySem PySem.Spec L2 PyProof.Rows
def newO (led:Bool):Obj:={ cls:=.type "set",dict:=none,data:=.set #[] 0 (.fresh 0 0 led) }
end PP
end
section
namespace PP
open PySem PySem.Spec L2 PyProof.Rows
section
variable {prog:Program} {w:World} {A:Around} {R:Result→Shared→Prop} {I:Addr} {fp wr:List Addr} {G:Array GenState→Array GenState→Prop} {n:Nat} {P:Nat→Value→Prop} {St:Nat→Shared→Prop}
end
section
variable {prog:Program} {w:World} {A:Around} {E:Value→Shared→Prop} {s:Shared}
theorem code_new_set (a:Value) {Q₁:Value→Shared→Prop} (h:Q₁ (.ref s.heap.objs.size) { s with heap:=s.heap.push (newO (!w.params.followText "set-order")) }) :
 codeAny (model prog w) A (.call (.builtin "set.__new__") ⟨[.type "set",a],[]⟩) (wants Q₁ E) s:=by
 refine codeAny_of_tree (wpAny_bind (m:=checkBuiltinCall "set.__new__" _) (wpAny_of_eq (PySem.F.newCall_set_1 a) (wpAny_pure ⟨plainId_quiet PySem.F.plain_set_new _,codeAny_builtin PySem.F.entry_set_new ?_⟩)))
 rw [Around.under_plainId PySem.F.plain_set_new _]
 unfold Builtin.«set.__new__» Builtin.Frozenset.newClass
 have z:=sub_set_self
 obtain ⟨hp,g,d,tk,os⟩:=s
 dsimp only
 wp_walk
 refine wpAny_askSetting (wpAny_pure ?_)
 dsimp only
 simp only [newObj]
 exact wpAny_bind (wpAny_alloc (wpAny_pure (wpAny_pure h)))
theorem set_of_any {l:Addr} {items:Array Value} {Z:Heap→Prop} {Q:Value→Shared→Prop} (hh:A.handled = none) (hl:s.heap.IsList l items)
 (loop:∀ (A':Around) (I:Addr) (St:Nat→Shared→Prop) (G:Array GenState→Array GenState→Prop) (s1:Shared) (R:Result→Shared→Prop),I = s.heap.objs.size+1→A'.units≤A.units+10→WalksS prog w A'.in1 I [I,l] [I] G items.size (fun i v=>items[i]? = some v) St→s.heap.objs.size∉[I,l]→St 0 s1→(∀ b o,s.heap.get? b = some o→s1.heap.get? b = some o)→s1.heap.get? s.heap.objs.size = some (newO (!w.params.followText "set-order")) →
   (∀ s',Moved [s.heap.objs.size,I] G s1 s'→Z s'.heap→R (.ok (.ret .none)) s')→codeAny (model prog w) A' (.builtin "set.update.loop" ⟨[.ref s.heap.objs.size,.ref I],[]⟩) R s1)
 (h:∀ (h':Heap) (tk:Nat),Z h'→(∀ b o,s.heap.get? b = some o→h'.get? b = some o)→Q (.ref s.heap.objs.size) { s with heap:=h',toks:=tk }) :
 wpAny (model prog w) A (call (.type "set") [.ref l]) Q E s:=by
 obtain ⟨c,tl,hmro⟩:=PySem.F.called_set.mro
 have y1:=PySem.F.called_set.made
 have y2:=PySem.F.called_set.sub
 have y3:=PySem.F.called_set.notType
 have y4:=PySem.F.called_set.canCreate
 have y5:=PySem.F.typeCall_set_1 (.ref l)
 refine wpAny_call (codeAny_of_tree (wpAny_pure ⟨Code.quiet_builtin _ (by decide +kernel),codeAny_builtin PySem.F.entry_type_call ?_⟩))
 rw [Around.under_plain (weight_type_call_type "set" [.ref l] []) rfl]
 repeat (any_goals (first | assumption | wp_step))
 refine codeAny_mono (code_new_set (.ref l) (E:=E) (Q₁:=fun v s1=>v = .ref s.heap.objs.size∧s1 = { s with heap:=s.heap.push (newO (!w.params.followText "set-order")) }) ⟨rfl,rfl⟩) fun r s1 hr=>?_
 cases r with
 | error e=>exact hr
 | ok fl =>
   cases fl with
   | ret v =>
     obtain ⟨rfl,rfl⟩:=hr
     have gS:(s.heap.push (newO (!w.params.followText "set-order"))).get? s.heap.objs.size = some (newO (!w.params.followText "set-order")):=Heap.get?_push_size _ rfl
     have hT:Shared.TypeIs { s with heap:=s.heap.push (newO (!w.params.followText "set-order")) } (.ref s.heap.objs.size) "set":=⟨_,gS,rfl⟩
     have y6:=PySem.F.called_set.init.lookup
     have y7:=PySem.F.called_set.init.bind (.ref s.heap.objs.size)
     repeat (any_goals (first | assumption | wp_step))
     refine codeAny_mono (codeAny_call_builtin (R:=wants (fun r s2=>r = .none∧∃ h' tk,s2 = { s with heap:=h',toks:=tk }∧Z h'∧∀ b o,s.heap.get? b = some o→h'.get? b = some o) E) PySem.F.called_set.init.plain PySem.F.entry_set_init (check_set_init_1 hT ?_)) fun r2 s2 hr2=>?_
     · obtain ⟨ol,hol,hcl,nl,hdl⟩:=hl
       obtain ⟨ocls,odict,odata,oslots⟩:=ol
       simp only at hcl hdl
       subst hcl;subst hdl
       have hol':(s.heap.push (newO (!w.params.followText "set-order"))).get? l = some { cls:=.type "list",dict:=odict,data:=.seq items nl,slots:=oslots }:=Heap.get?_push_of_some _ hol
       have y8:=PySem.F.sub_list_set
       have y9:=PySem.F.sub_list_frozenset
       have ya:(Value.type "list" == Value.type "dict") = false:=by decide
       have hl1:(s.heap.push (newO (!w.params.followText "set-order"))).IsList l items:=⟨_,hol',rfl,nl,rfl⟩
       unfold newO at gS hT hol' hl1 ⊢
       unfold Builtin.«set.__init__» noKeywords Builtin.Frozenset.updateFrom
       generalize hPI:pyIter = PI
       wp_walk
       subst hPI
       refine wpAny_pyIter_list hl1 (wpAny_bind (wpAny_runValue ?_))
       have lS:l < s.heap.objs.size:=Heap.lt_size hol
       have z1:(s.heap.push (newO (!w.params.followText "set-order"))).objs.size = s.heap.objs.size+1:=Heap.size_push _ _
       unfold newO at z1
       refine loop _ _ _ _ _ _ z1 (by show A.units+1+1≤A.units+10;omega) ((Walks.list (by simp [hh]) _ l (by rw [z1];exact Nat.ne_of_lt (Nat.lt_succ_of_lt lS)) items).toS) (by rw [z1];simp only [List.mem_cons,List.not_mem_nil,or_false,not_or];exact ⟨Nat.ne_of_lt (Nat.lt_succ_self _),Nat.ne_of_gt lS⟩) ⟨⟨_,Heap.get?_push_size _ rfl,rfl,rfl⟩,(hl1.push _)⟩ (fun b o e=>Heap.get?_push_of_some _ (Heap.get?_push_of_some _ e)) (Heap.get?_push_of_some _ gS) ?_
       · intro s' m hS'
         obtain ⟨h',g',d',tk',os'⟩:=s'
         have eg:g' = s.gens:=m.gens
         have ed:d' = s.drawn:=m.drawn
         have eo:os' = s.os:=m.os
         subst eg ed eo
         refine wpAny_pure (wpAny_pure ⟨rfl,h',tk',rfl,hS',fun b o e=>?_⟩)
         have lb:=Heap.lt_size e
         refine m.heap b o ?_ (Heap.get?_push_of_some _ (Heap.get?_push_of_some _ e))
         simp only [List.mem_cons,List.not_mem_nil,or_false,not_or]
         exact ⟨Nat.ne_of_lt lb,by rw [z1];exact Nat.ne_of_lt (Nat.lt_succ_of_lt lb)⟩
     · cases r2 with
       | error e=>exact hr2
       | ok fl2 =>
         cases fl2 with
         | ret r =>
           obtain ⟨rfl,h',tk,rfl,x1,x2⟩:=hr2
           repeat (any_goals (first | assumption | wp_step))
           exact h _ _ x1 x2
         | _=>exact hr2.elim
   | _=>exact hr.elim
end
variable [Tbs]
end PP
end
section
namespace PP
open PySem PySem.Spec L2 PyProof.Rows
def addP (ps:List (D × V)) (p:D × V):List (D × V):=if ps.any (fun q=>eqD q.1 p.1) then ps else ps++[p]
theorem addP_fst (ps:List (D × V)) (p:D × V):(addP ps p).map (·.1) = addU (ps.map (·.1)) p.1:=by
 unfold addP addU
 rw [List.any_map]
 show _ = if (ps.any fun q=>eqD q.1 p.1) = true then _ else _
 split
 · rfl
 · rw [List.map_append];rfl
theorem foldP_fst:∀ (xs ps:List (D × V)),(xs.foldl addP ps).map (·.1) = (xs.map (·.1)).foldl addU (ps.map (·.1))
 | [],ps=>rfl
 | x::xs,ps=>by rw [List.foldl_cons,foldP_fst xs,addP_fst];rfl
theorem foldP_mem {q:D × V}:∀ (xs ps:List (D × V)),q∈xs.foldl addP ps→q∈ps∨q∈xs
 | [],ps,h=>.inl h
 | x::xs,ps,h=>by
   rcases foldP_mem xs (addP ps x) h with h | h
   · unfold addP at h
     split at h
     · exact .inl h
     · rcases List.mem_append.mp h with h | h
       · exact .inl h
       · rw [List.mem_singleton] at h
         exact .inr (by rw [h];exact List.mem_cons_self)
   · exact .inr (List.mem_cons_of_mem _ h)
theorem addP_len (ps:List (D × V)) (p:D × V):ps.length≤(addP ps p).length:=by
 unfold addP
 split
 · exact Nat.le_refl _
 · simp
theorem foldP_len:∀ (xs ps:List (D × V)),ps.length≤(xs.foldl addP ps).length
 | [],ps=>Nat.le_refl _
 | x::xs,ps=>Nat.le_trans (addP_len ps x) (foldP_len xs _)
def vv:V→Value
 | .ref a=>.ref a
 | _=>.none
def entP (w:World) (p:D × V):Int × Value:=(hD w p.1,vv p.2)
variable [Tbs]
theorem any_eqD {ps:List (D × V)} {d:D} (hd:hok d = true) (hp:∀ q∈ps,hok q.1 = true):(ps.any fun q=>eqD q.1 d) = true↔d∈ps.map (·.1):=by
 rw [List.any_eq_true,List.mem_map]
 constructor
 · rintro ⟨q,h1,h2⟩
   exact ⟨q,h1,(eqD_iff _ _ (hok_inv (hp q h1)).1 (hok_inv hd).1).mp h2⟩
 · rintro ⟨q,h1,h2⟩
   exact ⟨q,h1,(eqD_iff _ _ (hok_inv (hp q h1)).1 (hok_inv hd).1).mpr h2⟩
theorem entD_map {w:World} {h:Heap}:∀ (ps:List (D × V)),(∀ q∈ps,hok q.1 = true∧RdV h q.1 (vv q.2))→EntD w h (ps.map (·.1)) (ps.map (entP w))
 | [],_=>.nil
 | q::ps,hq=>.cons ⟨rfl,hq q List.mem_cons_self⟩ (entD_map ps fun r hr=>hq r (List.mem_cons_of_mem _ hr))
section
variable {prog:Program} {w:World} {A:Around} {R:Result→Shared→Prop} {I:Addr} {fp wr:List Addr} {G:Array GenState→Array GenState→Prop} {n:Nat} {P:Nat→Value→Prop} {St:Nat→Shared→Prop}
theorem upd_data (hu:A.units+40 < cLine) (W:WalksS prog w A.in1 I fp wr G n P St) (S:Addr) (hSf:S∉fp) (h0:Heap) (n0:∀ b∈S::wr,h0.get? b = none) (xs:List (D × V)) (hx:∀ i v,P i v→∃ q,xs[i]? = some q∧v = vv q.2) (hr:∀ q∈xs,hok q.1 = true∧RdV h0 q.1 (vv q.2)) (hn:xs.length = n) :
 ∀ (k i:Nat) (s:Shared) (ps:List (D × V)),n - i = k→i≤n→(∀ q∈ps,hok q.1 = true∧RdV h0 q.1 (vv q.2))→((xs.drop i).foldl addP ps).length < 64→St i s→(∀ b o,h0.get? b = some o→s.heap.get? b = some o)→SetA w S (ps.map (entP w)) s.heap →
  (∀ s',Moved (S::wr) G s s'→SetA w S (((xs.drop i).foldl addP ps).map (entP w)) s'.heap→R (.ok (.ret .none)) s')→codeAny (model prog w) A (.builtin "set.update.loop" ⟨[.ref S,.ref I],[]⟩) R s:=by
 have nw:S∉wr:=fun z=>hSf (W.sub _ z)
 have sub:∀ b∈wr,b∈S::wr:=fun b z=>.tail _ z
 have stay:∀ {s s':Shared} {ys:List (Int × Value)},Moved wr G s s'→SetA w S ys s.heap→SetA w S ys s'.heap:=fun m ⟨es,ep,t,g,r⟩=>⟨es,ep,t,m.heap S _ nw g,r⟩
 have keep:∀ {s s':Shared},Moved wr G s s'→(∀ b o,h0.get? b = some o→s.heap.get? b = some o)→∀ b o,h0.get? b = some o→s'.heap.get? b = some o:=fun m hk b o e=>m.heap b o (fun z=>by rw [n0 b (sub b z)] at e;cases e) (hk b o e)
 intro k
 induction k with
 | zero =>
   intro i s ps hk hi hp hl st h0k hS fin
   obtain rfl:i = n:=by omega
   refine codeAny_builtin PyProof.Rows.F.entry_set_update_loop ?_
   rw [Around.under_plainId PyProof.Rows.F.plain_set_update_loop _]
   refine wpAny_bind (m:=pyNext (.ref I)) (W.done s _ _ st fun s' m=>wpAny_pure (fin s' (m.mono sub) ?_))
   rw [List.drop_of_length_le (by omega)]
   exact stay m hS
 | succ k ih =>
   intro i s ps hk hi hp hl st h0k hS fin
   refine codeAny_builtin PyProof.Rows.F.entry_set_update_loop ?_
   rw [Around.under_plainId PyProof.Rows.F.plain_set_update_loop _]
   refine wpAny_bind (m:=pyNext (.ref I)) (W.item i s _ _ (by omega) st fun v s1 p st1 m=>?_)
   obtain ⟨q,hq,rfl⟩:=hx i v p
   obtain ⟨q1,q2⟩:=hr q (List.mem_of_getElem? hq)
   have hk1:=keep m h0k
   have hlt:i < xs.length:=by omega
   have ed:xs.drop i = q::xs.drop (i+1):=by
    rw [List.drop_eq_getElem_cons hlt]
    congr 1
    rw [List.getElem?_eq_getElem hlt] at hq
    exact Option.some.inj hq
   rw [ed,List.foldl_cons] at hl fin
   have l1:=foldP_len (xs.drop (i+1)) (addP ps q)
   have l2:=addP_len ps q
   have hp1:∀ r∈addP ps q,hok r.1 = true∧RdV h0 r.1 (vv r.2):=fun r hr'=>by
    unfold addP at hr'
    split at hr'
    · exact hp r hr'
    · rcases List.mem_append.mp hr' with z | z
      · exact hp r z
      · rw [List.mem_singleton] at z;rw [z];exact ⟨q1,q2⟩
   refine wpAny_bind (m:=holding [vv q.2] (setAdd S (vv q.2))) (wpAny_holding (setAdd_D (ds:=ps.map (·.1)) (d:=q.1) (by show A.units+1+20 < cLine;omega) (stay m hS) (entD_map ps fun r hr'=>⟨(hp r hr').1,RdV.keep hk1 _ _ (hp r hr').2⟩) q1 (RdV.keep hk1 _ _ q2) (by rw [List.length_map];omega) (fun hm=>?_) fun hm h' sb hS1=>?_))
   · have ea:addP ps q = ps:=by
      unfold addP
      rw [if_pos ((any_eqD q1 fun r hr'=>(hp r hr').1).mpr hm)]
     rw [ea] at hl fin
     refine wpAny_pure ⟨plainId_quiet PyProof.Rows.F.plain_set_update_loop _,ih (i+1) _ ps (by omega) (by omega) hp hl (W.frame _ s1 _ _ st1 (Nat.le_add_right _ _) fun b z o e=>e) hk1 (show SetA w S _ s1.heap from stay m hS) fun s2 m2 hS2=>fin s2 (Moved.trans W.gtrans ((m.mono sub).then_heap (Nat.le_add_right _ _) fun b o z e=>e) m2) hS2⟩
   · have ea:addP ps q = ps++[q]:=by
      unfold addP
      rw [if_neg fun z=>hm ((any_eqD q1 fun r hr'=>(hp r hr').1).mp z)]
     have em:ps.map (entP w)++[(hD w q.1,vv q.2)] = (addP ps q).map (entP w):=by rw [ea,List.map_append];rfl
     rw [em] at hS1
     refine wpAny_pure ⟨plainId_quiet PyProof.Rows.F.plain_set_update_loop _,ih (i+1) _ (addP ps q) (by omega) (by omega) hp1 hl (W.frame _ s1 _ _ st1 (Nat.le_add_right _ _) fun b z o e=>?_) (fun b o e=>?_) hS1 fun s2 m2 hS2=>fin s2 (Moved.trans W.gtrans ((m.mono sub).then_heap (Nat.le_add_right _ _) fun b o z e=>?_) m2) hS2⟩
     · rw [sb.2 b (fun z'=>hSf (z'▸z))];exact e
     · rw [sb.2 b (fun z'=>by rw [z',n0 S List.mem_cons_self] at e;cases e)];exact hk1 b o e
     · rw [sb.2 b (fun z'=>z (z'▸List.mem_cons_self))];exact e
end
section
variable {prog:Program} {w:World} {A:Around} {E:Value→Shared→Prop} {s:Shared}
theorem fresh_TbI (fg mv:Nat) (led:Bool):TbI (.fresh fg mv led) []:=⟨.inl rfl,rfl,.nil,fun j h=>by simp [SetTable.fresh] at h,rfl,Nat.zero_le _,fun i j h a=>by simp [SetTable.fresh] at a⟩
theorem set_of_data {l:Addr} {items:Array Value} {xs:List (D × V)} {Q:Value→Shared→Prop} (hu:A.units+100 < cLine) (hh:A.handled = none) (hl:s.heap.IsList l items) (hi:items.toList = xs.map fun q=>vv q.2) (hr:∀ q∈xs,hok q.1 = true∧RdV s.heap q.1 (vv q.2)) (hb:(xs.foldl addP []).length < 64)
 (h:∀ (h':Heap) (tk:Nat),SetA w s.heap.objs.size ((xs.foldl addP []).map (entP w)) h'→(∀ b o,s.heap.get? b = some o→h'.get? b = some o)→Q (.ref s.heap.objs.size) { s with heap:=h',toks:=tk }) :
 wpAny (model prog w) A (call (.type "set") [.ref l]) Q E s:=by
 have hxs:xs.length = items.size:=by
  rw [← Array.length_toList,hi,List.length_map]
 refine set_of_any (Z:=SetA w s.heap.objs.size ((xs.foldl addP []).map (entP w))) hh hl (fun A' I St G s1 R eI hA W hS st k gS fin=>?_) h
 refine upd_data (by omega) W s.heap.objs.size hS s.heap (fun b hb=>?_) xs (fun i v hv=>?_) hr hxs (items.size - 0) 0 s1 [] (by omega) (Nat.zero_le _) (fun q hq=>by cases hq) hb st k ⟨#[],0,.fresh 0 0 (!w.params.followText "set-order"),gS,fresh_TbI _ _ _,rfl,.inl rfl,.refl _,by show 0 * 5 < 7 * 3;decide⟩ fin
 · cases e:s.heap.get? b with
   | none=>rfl
   | some o =>
     have:=Heap.lt_size e
     simp only [List.mem_cons,List.not_mem_nil,or_false] at hb
     rcases hb with z | z
     · rw [z] at this;exact absurd this (Nat.lt_irrefl _)
     · rw [z,eI] at this;exact absurd this (Nat.not_lt.mpr (Nat.le_succ _))
 · have e:items.toList[i]? = some v:=by rw [Array.getElem?_toList];exact hv
   rw [hi,List.getElem?_map] at e
   obtain ⟨q,q1,q2⟩:=Option.map_eq_some_iff.mp e
   exact ⟨q,q1,q2.symm⟩
end
section
variable {K:PySem.W.Frag} {H:Hp} {F:Addr→Prop}
theorem pairs_of:∀ {ds:List D} {xs:List V},RelL K H F ds xs→(ds.zip xs).map (·.1) = ds∧(ds.zip xs).map (·.2) = xs∧∀ q∈ds.zip xs,Rel K H F q.1 q.2
 | [],xs,r=>by unfold RelL at r;subst r;exact ⟨rfl,rfl,fun q h=>by cases h⟩
 | d::ds,xs,r=>by
   unfold RelL at r
   obtain ⟨y,ys,rfl,h1,h2⟩:=r
   obtain ⟨a,b,c⟩:=pairs_of h2
   refine ⟨by simp [a],by simp [b],fun q hq=>?_⟩
   rcases List.mem_cons.mp hq with rfl | hq
   · exact h1
   · exact c q hq
theorem rel_pairs:∀ (ps:List (D × V)),(∀ q∈ps,Rel K H F q.1 q.2)→RelL K H F (ps.map (·.1)) (ps.map (·.2))
 | [],_=>RelL.nil
 | q::ps,h=>RelL.cons (h q List.mem_cons_self) (rel_pairs ps fun r hr=>h r (List.mem_cons_of_mem _ hr))
theorem hok_rel {d:D} {v:V} (k:hok d = true) (r:Rel K H F d v):∃ a,v = .ref a:=by
 obtain ⟨_,_,x,ds,rfl⟩:=hok_inv k
 unfold Rel at r
 obtain ⟨a,xs,rfl,_⟩:=r
 exact ⟨a,rfl⟩
theorem vals_vv:∀ (ps:List (D × V)),(∀ q∈ps,∃ a,q.2 = .ref a)→Vals (ps.map (·.2)) (ps.map fun q=>vv q.2)
 | [],_=>.nil
 | q::ps,h=>by
   refine .cons ?_ (vals_vv ps fun r hr=>h r (List.mem_cons_of_mem _ hr))
   obtain ⟨a,e⟩:=h q List.mem_cons_self
   show RelV q.2 (vv q.2)
   rw [e]
   rfl
end
theorem vals_uniq:∀ {ps:List (D × V)} {us:List Value},(∀ q∈ps,∃ a,q.2 = .ref a)→Vals (ps.map (·.2)) us→us = ps.map fun q=>vv q.2
 | [],us,_,h=>by cases h;rfl
 | q::ps,us,hq,h=>by
   cases h with
   | cons r t =>
     obtain ⟨a,e⟩:=hq q List.mem_cons_self
     have r:RelV q.2 _:=r
     rw [e] at r
     have r':_ = Value.ref a:=r
     rw [List.map_cons,e,r',vals_uniq (fun r hr=>hq r (List.mem_cons_of_mem _ hr)) t]
     rfl
def setY (X:Cx) (p:Addr) (ps:List (D × V)):HO:=.ext (SetA X.w p (ps.map (entP X.w)))
theorem seta_ok {P:Program} {w:World} {H:Hp} {h:Heap} {a:Addr} {xs:List (Int × Value)} (x:SetA w a xs h):ObjOk P w H h a (.ext (SetA w a xs)):=by
 refine ⟨x,?_,fun h1 h2 x k=>?_⟩
 · obtain ⟨es,ep,t,g,r⟩:=x
   exact ⟨_,g⟩
 · obtain ⟨es,ep,t,g,r⟩:=x
   exact ⟨es,ep,t,k _ g,r⟩
theorem call_setD {X:Cx} (hc:X.calm = true) (hu:X.A.units+200 < cLine):CallR X (.type "set") (fun xs H Q=>∃ F a ds vs,xs = [.ref a]∧SqL X.K H a vs∧RelL X.K H F ds vs∧ds.all hok = true∧((ds.zip vs).foldl addP []).length < 64∧∀ p,H p = none→Q (.ref p) (upd H p (setY X p ((ds.zip vs).foldl addP [])))):=by
 intro pins s σ H xs us0 Q I r h
 obtain ⟨F,a,ds,vs,rfl,hq,rl,hk,hz,q⟩:=h
 obtain ⟨u,rfl,rx⟩:=vals1 r
 cases rx
 obtain ⟨its,r',pl,_⟩:=I.list hq
 obtain ⟨p1,p2,p3⟩:=pairs_of rl
 have hks:∀ q∈ds.zip vs,hok q.1 = true:=fun q hq=>List.all_eq_true.mp hk q.1 (by rw [← p1];exact List.mem_map_of_mem hq)
 have refs:∀ q∈ds.zip vs,∃ a,q.2 = .ref a:=fun q hq=>hok_rel (hks q hq) (p3 q hq)
 rw [← p2] at r'
 have ei:=vals_uniq refs r'
 refine set_of_data (xs:=ds.zip vs) (by omega) (I.ok.hd hc) pl.isList (by rw [ei]) (fun q hq=>⟨hks q hq,?_⟩) hz fun h' tk hS k=>?_
 · obtain ⟨b,e⟩:=refs q hq
   exact rdV_of I q.1 q.2 _ (p3 q hq) (by rw [e];rfl)
 · have ok:=seta_ok (P:=X.prog) (H:=upd H s.heap.objs.size (setY X s.heap.objs.size ((ds.zip vs).foldl addP []))) hS
   exact ⟨.ref s.heap.objs.size,_,I.laid (t':=tk) k (Nat.le_refl _) ok,rfl,q _ (I.hok.fresh (Nat.le_refl _))⟩
end PP
end
section
namespace PP
open PySem L2 PyProof.Rows PySem.W
theorem tot_inv {ds:List D} (h:tot ds = true):(∀ a∈ds,∀ b∈ds,ltB a b = true→ltB b a = false)∧(∀ a∈ds,∀ b∈ds,ltB a b = false→ltB b a = false→eqD a b = true)∧∀ a∈ds,∀ b∈ds,∀ c∈ds,ltB b a = false→ltB c b = false→ltB c a = false:=by
 unfold tot at h
 simp only [List.all_eq_true,Bool.and_eq_true,Bool.or_eq_true,Bool.not_eq_true',Bool.and_eq_false_iff] at h
 refine ⟨fun a ha b hb q=>?_,fun a ha b hb q1 q2=>?_,fun a ha b hb c hc q1 q2=>?_⟩
 · rcases (h a ha b hb).1.1 with z | z
   · rw [q] at z;cases z
   · exact z
 · rcases (h a ha b hb).1.2 with (z | z) | z
   · rw [q1] at z;cases z
   · rw [q2] at z;cases z
   · exact z
 · rcases (h a ha b hb).2 c hc with (z | z) | z
   · rw [q1] at z;cases z
   · rw [q2] at z;cases z
   · exact z
theorem sortD_up {us ds:List D} (p:us.Perm ds) (hs:sortable ds = true) (ht:tot ds = true):(sortL us).Perm ds∧(sortL us).Pairwise fun a b=>ltB b a = false:=by
 obtain ⟨_,_,hlt⟩:=(letI:Tbs:=⟨[],[]⟩;sortable_inv hs)
 obtain ⟨t1,t2,t3⟩:=tot_inv ht
 cases ds with
 | nil =>
   have:us = []:=List.perm_nil.mp p
   subst this
   exact ⟨.refl _,.nil⟩
 | cons d0 dr =>
   letI:Inhabited { d // d∈d0::dr }:=⟨⟨d0,List.mem_cons_self⟩⟩
   have e:(us.attachWith (·∈d0::dr) fun x hx=>p.mem_iff.mp hx).map Subtype.val = us:=List.attachWith_map_subtype_val ..
   obtain ⟨ys,e1,p1,u1⟩:=sortL_up (α:={ d // d∈d0::dr }) Subtype.val (fun a b=>ltB a.1 b.1) (fun x y=>by
    obtain ⟨k,hk⟩:=hlt x.1 x.2 y.1 y.2
    rw [hk]
    unfold ltB
    rw [hk]
    rfl) (fun a b h=>t1 a.1 a.2 b.1 b.2 h) (fun a b c h1 h2=>t3 a.1 a.2 b.1 b.2 c.1 c.2 h1 h2) (us.attachWith (·∈d0::dr) fun x hx=>p.mem_iff.mp hx)
   rw [e] at e1
   rw [e1]
   refine ⟨?_,?_⟩
   · have:=p1.map Subtype.val
     rw [e] at this
     exact this.trans p
   · exact List.pairwise_map.mpr (up_pair (lt:=fun (a b:{ d // d∈d0::dr })=>ltB a.1 b.1) u1)
theorem sortD_perm {us ds:List D} (p:us.Perm ds) (hs:sortable ds = true) (ht:tot ds = true) (hb:∀ d∈ds,hb d = true):sortL us = sortL ds:=by
 obtain ⟨p1,u1⟩:=sortD_up p hs ht
 obtain ⟨p2,u2⟩:=sortD_up (.refl ds) hs ht
 obtain ⟨_,t2,_⟩:=tot_inv ht
 refine List.Perm.eq_of_pairwise (fun x y hx hy h1 h2=>?_) u1 u2 (p1.trans p2.symm)
 have mx:=p1.mem_iff.mp hx
 have my:=p2.mem_iff.mp hy
 exact (eqD_iff x y (hb x mx) (hb y my)).mp (t2 x mx y my h2 h1)
theorem sortable_perm {us ds:List D} (p:us.Perm ds) (hs:sortable ds = true):sortable us = true:=by
 obtain ⟨h1,h2,h3⟩:=(letI:Tbs:=⟨[],[]⟩;sortable_inv hs)
 unfold sortable
 simp only [Bool.and_eq_true,decide_eq_true_eq,List.all_eq_true]
 refine ⟨⟨by rw [p.length_eq];exact h1,fun x hx=>?_⟩,fun x hx y hy=>?_⟩
 · have mx:=p.mem_iff.mp hx
   obtain ⟨a,b⟩:=h2 x mx
   have:us.getD 0 .non∈ds:=by
    cases us with
    | nil=>cases hx
    | cons u r=>exact p.mem_iff.mp List.mem_cons_self
   exact ⟨by simpa using a,by rw [b,(h2 _ this).2];simp⟩
 · obtain ⟨k,hk⟩:=h3 x (p.mem_iff.mp hx) y (p.mem_iff.mp hy)
   rw [hk];rfl
variable [Tbs]
theorem call_sortedY {X:Cx} (hc:X.calm = true) (hu:X.A.units+200 < cLine):CallR X (.builtin "sorted") (fun xs H Q=>∃ F a ps,xs = [.ref a]∧H a = some (setY X a ps)∧(∀ q∈ps,hok q.1 = true∧Rel X.K H F q.1 q.2)∧sortable (ps.map (·.1)) = true∧tot (ps.map (·.1)) = true ∧
 ∀ p ys,H p = none→RelL X.K H F (sortL (ps.map (·.1))) ys→Q (.ref p) (upd H p (.lst ys))):=by
 intro pins s σ H xs us0 Q I r h
 obtain ⟨F,a,ps,rfl,hH,hps,hs,ht,q⟩:=h
 obtain ⟨u,rfl,rx⟩:=vals1 r
 cases rx
 obtain ⟨⟨es,ep,t,g,T,hl,hp,hq,_⟩,_,_⟩:=I.hok a _ hH
 have h64:=(sortable_inv hs).1
 rw [List.length_map] at h64
 refine Calls.call_function_entry kind_sorted plain_sorted entry_sorted (args_sorted1 _) ?_
 unfold Builtin.«sorted»
 have pw:(es.toList.map (·.2)).Perm (ps.map fun q=>vv q.2):=by
  have:=hq.map (·.2)
  rw [List.map_map] at this
  exact this
 refine wpAny_bind (m:=checkCount "sorted" 1 1 _) (wpAny_pure (wpAny_bind (collect_any (A:=X.A.in1) (I.ok.hd hc) ⟨es,ep,t,g,fits_of T (by simp),hl,hp,pw⟩ (by rw [List.length_map];omega) fun vs d tk h1 pv k1=>wpAny_bind (wpAny_newList ?_ ?_))))
 · obtain ⟨qs,pq,rq⟩:=pair_perm pv ps (R:=fun q v=>v = vv q.2) (by
    have:∀ l:List (D × V),Paired (fun (q:D × V) (v:Value)=>v = vv q.2) l (l.map fun q=>vv q.2):=fun l=>by
     induction l with
     | nil=>exact .nil
     | cons x l ih=>exact .cons rfl ih
    exact this ps)
   have ev:vs = qs.map fun q=>vv q.2:=by
    clear pv pq
    induction rq with
    | nil=>rfl
    | cons r _ ih=>rw [List.map_cons,ih,r]
   subst ev
   have hqs:∀ q∈qs,hok q.1 = true∧Rel X.K H F q.1 q.2:=fun q hq=>hps q (pq.mem_iff.mp hq)
   have rl:=rel_pairs qs fun q hq=>(hqs q hq).2
   have vq:=vals_vv qs fun q hq=>hok_rel (hqs q hq).1 (hqs q hq).2
   have rd0:=rdL_of I _ _ _ rl vq
   have rd:=RdL.keep k1 _ _ rd0
   have pd:(qs.map (·.1)).Perm (ps.map (·.1)):=pq.map _
   have hsq:=sortable_perm pd hs
   obtain ⟨_,hk,_⟩:=sortable_inv hsq
   have lu:qs.length < 64:=by rw [pq.length_eq];exact h64
   have l3:(qs.map fun q=>vv q.2).length = (qs.map (·.1)).length:=by rw [List.length_map,List.length_map]
   have hlen:(outOf (ltIx (qs.map (·.1))) (qs.map fun q=>vv q.2)).length = (qs.map fun q=>vv q.2).length:=by
    unfold outOf
    split
    · rfl
    · rw [List.length_map,(sort_list _).length_eq,List.length_range]
   have small:∀ i∈(ans (ltIx (qs.map (·.1))) (kas_sort (qs.map fun q=>vv q.2).length)).toList,i < (qs.map fun q=>vv q.2).length:=fun i hi=>by simpa using (sort_list _).mem_iff.mp hi
   have hv:∃ ys,Vals ys (outOf (ltIx (qs.map (·.1))) (qs.map fun q=>vv q.2))∧RelL X.K H F (sortL (qs.map (·.1))) ys:=by
    unfold outOf sortL
    by_cases h2:(qs.map fun q=>vv q.2).length < 2
    · rw [if_pos h2,if_pos (by omega)]
      exact ⟨_,vq,rl⟩
    · rw [if_neg h2,if_neg (by omega),← l3]
      exact ⟨_,Vals_map vq _ fun i hi=>by have:=small i hi;rw [List.length_map] at this ⊢;exact this,RelL_map rl _ fun i hi=>by rw [← l3];exact small i hi⟩
   obtain ⟨ys,vy,ry⟩:=hv
   rw [sortD_perm pd hs ht fun d hd=>by
    obtain ⟨q,hq,rfl⟩:=List.mem_map.mp hd
    exact (hok_inv (hps q hq).1).1] at ry
   have hL:(h1.push (seqObj "list" (qs.map fun q=>vv q.2).toArray 0)).get? h1.objs.size = some (seqObj "list" (qs.map fun q=>vv q.2).toArray 0):=Heap.get?_push_size _ rfl
   have kp':∀ {h':Heap},(∀ b o,b≠h1.objs.size→(h1.push (seqObj "list" (qs.map fun q=>vv q.2).toArray 0)).get? b = some o→h'.get? b = some o)→∀ b o,h1.get? b = some o→h'.get? b = some o:=fun kp b o e=>kp b o (Nat.ne_of_lt (Heap.lt_size e)) (Heap.get?_push_of_some _ e)
   refine wpAny_bind (wpAny_holding (wpAny_call_entry slot_list_sort ⟨_,hL,rfl⟩ entry_list_sort ?_ (args_list_sort _)))
   refine list_sort_by (s:={ s with heap:=h1.push (seqObj "list" (qs.map fun q=>vv q.2).toArray 0),drawn:=d,toks:=tk }) (lt:=ltIx (qs.map (·.1))) (κ:=if headK ((qs.map (·.1)).getD 0 .non) < 3 then oneType' else tuples' true) hL (by rw [List.length_map];exact lu) hlen
    (fun h2 h' kp C c=>kind_D (s:={ s with heap:=h',drawn:=d,toks:=tk }) (RdL.keep (kp' kp) _ _ rd) hk h2 c) (fun h' kp i j hi hj C c=>ask_D (A:=X.A) (s:={ s with heap:=h1,drawn:=d,toks:=tk }) hu (by show X.A.units+1+1≤X.A.units+2;omega) rd l3 hsq (kp' kp) i j hi hj C c) ?_
   · refine ⟨_,rfl,wpAny_pure ⟨_,rfl,?_⟩⟩
     have J:=I.call (h':=h1) (g':=s.gens) (d':=d) (t':=tk) (ch:=[]) (Un.kept k1) (I.hok.kept k1) I.bare (fun b z=>absurd z (by simp))
     obtain ⟨e,he⟩:=sortedHeap_at (out:=(outOf (ltIx (qs.map (·.1))) (qs.map fun q=>vv q.2)).toArray) hL
     have old:∀ b o,h1.get? b = some o→(sortedHeap (h1.push (seqObj "list" (qs.map fun q=>vv q.2).toArray 0)) h1.objs.size (qs.map fun q=>vv q.2) (outOf (ltIx (qs.map (·.1))) (qs.map fun q=>vv q.2)).toArray).get? b = some o:=fun b o e=>by
      have lb:=Heap.lt_size e
      rw [sortedHeap_old (Nat.ne_of_lt lb) (by rw [Heap.size_push];exact Nat.lt_succ_of_lt lb)]
      exact Heap.get?_push_of_some _ e
     refine ⟨.ref h1.objs.size,upd H h1.objs.size (.lst ys),J.laid (t':=tk) old (Nat.le_refl _) ⟨?_,_,e,vy,he⟩,rfl,q _ _ (J.hok.fresh (Nat.le_refl _)) ry⟩
     rw [ry.length,sortL_len,List.length_map,sizeLine_eq]
     omega
 · have:=pv.length_eq
   rw [List.length_map] at this
   rw [sizeLine_eq]
   omega
end PP
end
section
namespace PP
open PySem L2 PyProof.Rows
variable [Tbs]
section
variable {K:PySem.W.Frag} {cx:Cl} {P:Program} {w:World}
end
end PP
end
section
namespace PP
open PySem L2 PyProof.Rows
def fzO (b:Addr) (o:Obj):HO:=.frz o (.ext fun h=>h.get? b = some o)
def addF (H:Hp) (cs:List (Addr × Obj)):Hp:=fun b=>match cs.lookup b with
 | some o=>some (fzO b o)
 | none=>H b
def delF (H:Hp) (cs:List (Addr × Obj)):Hp:=fun b=>match cs.lookup b with
 | some _=>none
 | none=>H b
section
variable {P:Program} {w:World} {H H':Hp} {h h':Heap} {cs:List (Addr × Obj)}
theorem addF_in {b:Addr} {o:Obj} (e:cs.lookup b = some o):addF H cs b = some (fzO b o):=by unfold addF;rw [e]
theorem addF_out {b:Addr} (e:cs.lookup b = none):addF H cs b = H b:=by unfold addF;rw [e]
theorem delF_in {b:Addr} {o:Obj} (e:cs.lookup b = some o):delF H cs b = none:=by unfold delF;rw [e]
theorem delF_out {b:Addr} (e:cs.lookup b = none):delF H cs b = H b:=by unfold delF;rw [e]
def Un0 (H:Hp) (h:Heap) (cs:List (Addr × Obj)):Prop:=∀ b o,cs.lookup b = some o→H b = none∧h.get? b = some o
theorem addF_of {b:Addr} {u:HO} (c:Un0 H h cs) (e:H b = some u):addF H cs b = some u:=by
 cases q:cs.lookup b with
 | none=>rw [addF_out q];exact e
 | some o=>rw [(c b o q).1] at e;cases e
theorem ObjOk.mono {a:Addr}:∀ {u:HO},ObjOk P w H h a u→(∀ b x,(∀ o,x≠fzO b o)→H b = some x→H' b = some x)→ObjOk P w H' h a u
 | .lst _,x,_=>x
 | .tup _,x,_=>x
 | .dK _,x,_=>x
 | .dT kvs,x,k=>by
   obtain ⟨x1,x2,xs,x3,x4⟩:=x
   refine ⟨x1,x2,xs,L2.Paired.mapP x3 fun p q z=>⟨z.1,k _ _ (fun o=>by unfold fzO;intro z;cases z) z.2.1,z.2.2⟩,x4⟩
 | .set _ _,x,_=>x
 | .ins _ _ _,x,k=>by
   obtain ⟨x1,x2⟩:=x
   exact ⟨k _ _ (fun o=>by unfold fzO;intro z;cases z) x1,x2⟩
 | .own _,x,_=>x
 | .xd _,x,_=>x
 | .met _ _,x,_=>x
 | .rng _ _,x,_=>x
 | .frz _ u,x,k=>⟨x.1,ObjOk.mono x.2 k⟩
 | .tbl _,x,_=>x
 | .ext _,x,_=>x
theorem HOk.add (x:HOk P w H h) (c:Un0 H h cs):HOk P w (addF H cs) h:=fun a u e=>by
 cases q:cs.lookup a with
 | none =>
   rw [addF_out q] at e
   exact ObjOk.mono (x a u e) fun b y _ z=>addF_of c z
 | some o =>
   rw [addF_in q] at e
   cases e
   have g:=(c a o q).2
   exact ⟨g,g,⟨o,g⟩,fun h1 h2 e1 k=>k _ e1⟩
def Fz0 (H:Hp) (cs:List (Addr × Obj)):Prop:=∀ b o,cs.lookup b = some o→H b = some (fzO b o)
theorem HOk.del (x:HOk P w H h) (c:Fz0 H cs):HOk P w (delF H cs) h:=fun a u e=>by
 cases q:cs.lookup a with
 | some o=>rw [delF_in q] at e;cases e
 | none =>
   rw [delF_out q] at e
   refine ObjOk.mono (x a u e) fun b y n z=>?_
   cases r:cs.lookup b with
   | none=>rw [delF_out r];exact z
   | some o =>
     rw [c b o r] at z
     cases z
     exact absurd rfl (n o)
theorem Un.del {fs ex:List Addr} (u:Un fs ex (addF H cs) H' h h') (x:HOk P w H' h') (c:Un0 H h cs) (nf:∀ b o,cs.lookup b = some o→b∉fs∧b∉ex):Un fs ex H (delF H' cs) h h'∧Fz0 H' cs:=by
 have fz:Fz0 H' cs:=fun b o e=>u.frzs b o _ (addF_in e)
 refine ⟨⟨fun b o e n hb hx=>?_,fun b o e n hb hx=>?_,fun b o e n hx=>?_,u.there,fun b xs e=>?_,fun b o y e=>?_,fun b ps e=>?_⟩,fz⟩
 · cases q:cs.lookup b with
   | none=>exact u.keep b o e (by rw [addF_out q];exact n) hb hx
   | some o' =>
     have g:=(c b o' q).2
     rw [e] at g
     cases g
     exact (x b _ (fz b o q)).1
 · cases q:cs.lookup b with
   | none=>exact u.slot b o e (by rw [addF_out q];exact n) hb hx
   | some o'=>exact absurd hb (nf b o' q).1
 · cases q:cs.lookup b with
   | none=>rw [delF_out q];exact u.free b o e (by rw [addF_out q];exact n) hx
   | some o'=>exact delF_in q
 · cases q:cs.lookup b with
   | none=>rw [delF_out q];exact u.tups b xs (by rw [addF_out q];exact e)
   | some o'=>rw [(c b o' q).1] at e;cases e
 · cases q:cs.lookup b with
   | none=>rw [delF_out q];exact u.frzs b o y (by rw [addF_out q];exact e)
   | some o'=>rw [(c b o' q).1] at e;cases e
 · cases q:cs.lookup b with
   | none=>rw [delF_out q];exact u.tbls b ps (by rw [addF_out q];exact e)
   | some o'=>rw [(c b o' q).1] at e;cases e
theorem Env0.add {K:PySem.W.Frag} {mg:Str→Option Value} {base:Heap} {A:Around} {outer:List Env} {s:Shared} (e:Env0 P w K mg base A outer s H) (c:Un0 H s.heap cs) (nb:∀ b o,cs.lookup b = some o→base.get? b = none∧b∉frs outer):Env0 P w K mg base A outer s (addF H cs) :=
 ⟨e.frames,e.mod,fun b o z=>⟨(e.bs b o z).1,by
   cases q:cs.lookup b with
   | none=>rw [addF_out q];exact (e.bs b o z).2
   | some o'=>rw [(nb b o' q).1] at z;cases z⟩,e.bsz,e.funs,fun b hb=>by
   cases q:cs.lookup b with
   | none=>rw [addF_out q];exact e.frf b hb
   | some o'=>exact absurd hb (nb b o' q).2,HOk.add e.hok c,e.bare⟩
end
theorem Inv.callF {X:Cx} {pins:List (Addr × Obj)} {σ:L2.St} {H:Hp} {s s':Shared} {cs:List (Addr × Obj)} {Q:VK} {u:Value} (I:Inv X pins σ H s) (c:Un0 H s.heap cs) (nf:∀ b o,cs.lookup b = some o→b∉frs X.stack)
 (h:CE X.stack X.prog X.w (addF H cs) s Q u s'):∃ v H',Inv X pins σ (delF H' cs) s'∧RelV v u∧Fz0 H' cs∧Q v H':=by
 obtain ⟨v,H',os,bare,un,hok,r,qq⟩:=h
 obtain ⟨hh,g,d,t,os'⟩:=s'
 obtain rfl:os' = s.os:=os
 obtain ⟨un',fz⟩:=Un.del un hok c fun b o e=>⟨nf b o e,by simp⟩
 exact ⟨v,H',I.call (h':=hh) (g':=g) (d':=d) (t':=t) (ch:=[]) un' (HOk.del hok fz) bare (fun b z=>absurd z (by simp)),r,fz,qq⟩
end PP
end
section
namespace PP
open PySem L2 PyProof.Rows
variable [Tbs]
section
variable {cx:Cl} {k:Nat}
theorem noPk_ok:∀ {es:Es},noPk es = true→okEs es = true
 | .nil,_=>rfl
 | .cons e es,h=>by
   have h':(!isPk e && noPk es) = true:=h
   rw [Bool.and_eq_true] at h'
   show ((!isPk e || npS es) && okEs es) = true
   rw [h'.1,noPk_ok h'.2];rfl
theorem star_any {c:Ck} {env:Env} {pos:Pos}:∀ {es:Es} {ys:List Expr},ckEs c es ys = true→(backTo pos (starEach ys env)).any (·.1) = false
 | .nil,ys,h=>by obtain ⟨rfl,_⟩:=on0_of h;rfl
 | .cons e es,ys,h=>by
   obtain ⟨_,_,rfl,hh⟩:=onS_of h
   rw [Bool.and_eq_true] at hh
   rw [head_star (ck_head hh.1)]
   show (false || (backTo pos (starEach _ env)).any (·.1)) = false
   rw [star_any hh.2];rfl
theorem scope_of {X:Cx} {c:Ck} {sc:Scope} (C:Cok X c cx k) (h:scopeOk c sc = true):CScope X sc:=by
 unfold scopeOk at h
 rw [Bool.and_eq_true,List.all_eq_true] at h
 obtain ⟨h1,h2⟩:=h
 have q:∀ p∈sc.names,p.2≠.cell∧(p.2 = .local→sc.names.lookup p.1 = some .local)∧(p.2 = .free→c.sc.names.lookup p.1 = some .cell∨c.sc.names.lookup p.1 = some .free):=fun p hp=>by
  have z:=h2 p hp
  rw [Bool.and_eq_true,Bool.and_eq_true] at z
  obtain ⟨⟨a,b⟩,d⟩:=z
  refine ⟨of_decide_eq_true a,fun e=>?_,fun e=>?_⟩
  · rw [Bool.or_eq_true] at b
    rcases b with b | b
    · simp [e] at b
    · exact of_decide_eq_true b
  · rw [Bool.or_eq_true] at d
    rcases d with d | d
    · simp [e] at d
    · split at d
      · exact .inl ‹_›
      · exact .inr ‹_›
      · cases d
 exact ⟨of_decide_eq_true h1,fun y hy=>(q y hy).1,fun y hy e=>(q y hy).2.1 e,fun x hx=>C.kc x ((q _ hx).2.2 rfl)⟩
theorem cok_block {X:Cx} {c:Ck} {sc:Scope} {Nc:List Str} (C:Cok X c cx k) (h:scopeOk c sc = true) (hn:Nc.Nodup) (cl:List (Str × Addr)) (Ca:Addr) (s:Shared) (H:Hp) (fp:List Addr):Cok (cxC X sc cl Ca Nc s H fp) ⟨Nc,sc,c.fns,c.gn⟩ cx k:=by
 have S:=scope_of C h
 have kd:∀ x,(cxC X sc cl Ca Nc s H fp).env.kindOf x = (sc.names.lookup x).map fun k=>if (k == NameKind.free && X.env.scope.kind == .function && X.env.kindOf x == some .cell) then NameKind.cell else k:=fun x=>comp_kind x
 refine ⟨rfl,hn,fun x hx=>?_,fun x hx=>?_,fun x hx=>?_,fun x hx=>?_,C.calm,rfl,C.room,C.fns,C.fnF,C.fnO,C.lam,C.blt,C.glob,C.gsome⟩
 · have e:=kd x
   show (cxC X sc cl Ca Nc s H fp).env.kindOf x = some .local∨(cxC X sc cl Ca Nc s H fp).env.kindOf x = some .cell∨(cxC X sc cl Ca Nc s H fp).env.kindOf x = some .free
   rw [e]
   rcases hx with hx | hx | hx
   · rw [hx];exact .inl rfl
   · exact absurd rfl (S.nocell _ (PySem.mem_of_lookup hx))
   · rw [hx]
     simp only [Option.map_some]
     split
     · exact .inr (.inl rfl)
     · exact .inr (.inr rfl)
 · show (cxC X sc cl Ca Nc s H fp).env.kindOf x = some .globalImplicit
   rw [kd x]
   have hx:sc.names.lookup x = some .globalImplicit:=hx
   rw [hx]
   rfl
 · have:sc.names.lookup x = some .local:=by
    rcases hx with hx | hx
    · exact hx
    · exact absurd rfl (S.nocell _ (PySem.mem_of_lookup hx))
   have e:(cxC X sc cl Ca Nc s H fp).env.kindOf x = some .local:=by rw [kd x,this];rfl
   exact ⟨.inl e,.inr e⟩
 · rw [kd x]
   have hx:sc.names.lookup x = some .cell∨sc.names.lookup x = some .free:=hx
   rcases hx with hx | hx
   · exact absurd rfl (S.nocell _ (PySem.mem_of_lookup hx))
   · rw [hx]
     simp only [Option.map_some]
     split
     · exact .inl rfl
     · exact .inr rfl
theorem names_of' {c:Ck} {sc:Scope} {Nc:List Str} (h:namesOk c sc Nc = true):Nc.Nodup∧∀ i x,i < c.N.length→Nc[i]? = some x→Vis sc x→c.N[i]? = some x∧sc.names.lookup x = some .free:=by
 unfold namesOk at h
 rw [Bool.and_eq_true,List.all_eq_true] at h
 refine ⟨of_decide_eq_true h.1,fun i x hi e v=>?_⟩
 have z:=h.2 i (by simpa using hi)
 rw [e] at z
 dsimp only at z
 rw [Bool.or_eq_true,Bool.and_eq_true] at z
 have vb:visB sc x = true:=by
  unfold visB
  rcases v with v | v | v<;>rw [v]
 rcases z with z | ⟨z1,z2⟩
 · rw [vb] at z;cases z
 · exact ⟨of_decide_eq_true z1,of_decide_eq_true z2⟩
theorem comp_any {X:Cx} {c:Ck} {Nc:List Str} {kk:Nat} {tg:Tg} {src:It} {ifs:Eo} {elt:E} {pins:List (Addr × Obj)} {s:Shared} {σ:L2.St} {H:Hp} {Q:VK} (C:Cok X c cx k) (I:Inv X pins σ H s) (n:(!isPk elt) = true) (hk:Nc.length = c.N.length+kk) (hge:tgGe c.N.length tg = true)
 {G:Gh} {F:Addr→Prop} {δ δ':Loc} {d:D} (ok:Ok X.K G F σ H δ) (ev:evE cx (.comp kk tg src ifs elt) δ = some (d,δ'))
 (q:∀ p ys xs H1 F1 H2 F2,d = .lst ys→Step G F H F1 H1→Step G F1 H1 F2 H2→H1 p = none→G.free p→Ok X.K (G.and p) F2 σ H2 δ'→H2 p = some (.lst xs)→RelL X.K H2 F2 ys xs→(np (.comp kk tg src ifs elt) = true→Sim H H2)→Q (.ref p) H2) :
 tLC (Nc.length - X.N.length) (tI X.K cx src) (gTg X.K tg) (tG X.K cx ifs) (tE X.K cx elt) σ H Q:=by
 obtain ⟨ds,δ1,ys,ei,ec,hz,rfl⟩:=comp_ev ev
 have ek:Nc.length - X.N.length = kk:=by rw [C.hN,hk];omega
 rw [ek]
 refine ⟨G,F,δ,ds,δ1,ok,ei,fun J H1 F1 st1 sm1 ok1 wk=>fun p hp=>?_⟩
 have hg:=ok1.free hp
 refine comp_turns n (by rw [I.len,C.hN];exact hge) ok1 (wk _) hp ec hz fun σ' H2 F2 xs ok2 eD rl st2 sm2=>?_
 refine q p ys xs H1 F1 H2 F2 rfl st1 st2 hp hg ok2 eD rl fun z=>?_
 have z':(npI src && npO ifs && np elt) = true:=z
 rw [Bool.and_eq_true,Bool.and_eq_true] at z'
 exact (sm1 z'.1.1).trans (sm2 (by rw [z'.1.2,z'.2];rfl))
theorem comp_tLC {X:Cx} {c:Ck} {Nc:List Str} {kk:Nat} {tg:Tg} {src:It} {ifs:Eo} {elt:E} {pins:List (Addr × Obj)} {s:Shared} {σ:L2.St} {H:Hp} {Q:VK} (C:Cok X c cx k) (I:Inv X pins σ H s) (n:(!isPk elt) = true) (hk:Nc.length = c.N.length+kk) (hge:tgGe c.N.length tg = true)
 (h:tE X.K cx (.comp kk tg src ifs elt) σ H Q):tLC (Nc.length - X.N.length) (tI X.K cx src) (gTg X.K tg) (tG X.K cx ifs) (tE X.K cx elt) σ H Q:=by
 obtain ⟨G,F,δ,d,δ',ok,ev,post⟩:=h
 refine comp_any C I n hk hge ok ev fun p ys xs H1 F1 H2 F2 e st1 st2 hp hg ok2 eD rl sm=>?_
 subst e
 have st':Step G F1 H1 (fun b=>F2 b∧b≠p) H2:=⟨st2.keep,fun b z=>st2.grow b z.1,fun b o r f e=>by
  obtain ⟨a1,a2⟩:=st2.res b o r f e
  exact ⟨⟨a1,fun w=>by rw [w,hp] at e;cases e⟩,a2⟩,st2.tb⟩
 refine post (.ref p) H2 _ (st1.trans st') sm (ok2.leave hg) (relm ?_)
 unfold Rel
 exact ⟨p,xs,rfl,.inl ⟨.inl eD,fun z=>z.2 rfl⟩,RelL.less ok2.fd (fun b z=>z.1) rl⟩
theorem snd_comp {X:Cx} {c:Ck} {sc:Scope} {Nc:List Str} {kk:Nat} {tg:Tg} {src:It} {ifs:Eo} {elt:E} {ex t it:Expr} {il:List Expr} {pos:Pos} (C:Cok X c cx k) (n:(!isPk elt) = true) (hk:Nc.length = c.N.length+kk) (hge:tgGe c.N.length tg = true) (hs:scopeOk c sc = true) (hn:namesOk c sc Nc = true)
 (htg:∀ cl Ca s H fp,PG (cxC X sc cl Ca Nc s H fp) t (gTg X.K tg)) (hI:PI X t it (tI X.K cx src)) (hG:∀ cl Ca s H fp,PTs (cxC X sc cl Ca Nc s H fp) il (tG X.K cx ifs)) (hE:∀ cl Ca s H fp,PE (cxC X sc cl Ca Nc s H fp) ex (tE X.K cx elt))
 (hset:∀ v,foldedSetIterable it X.env v = pure v):PE X (.ListComp ex [⟨t,it,il,0⟩] sc pos) (tE X.K cx (.comp kk tg src ifs elt)):=by
 obtain ⟨nd,hvis⟩:=names_of' hn
 intro pins s σ H Q I h
 refine pe_lcomp (Nc:=Nc) C.xe C.calm (scope_of C hs) (fun i x hi=>by rw [C.hN] at hi ⊢;exact hvis i x hi) (by rw [C.hN,hk];omega) hI htg hG hE hset pins s σ H Q I ?_
 exact comp_tLC C I n hk hge h
theorem call_of {X:Cx} {c:Ck} {f:Nat} {es:Es} {n:Str} {p pos:Pos} {xs:List Expr} (C:Cok X c cx k) (hA:PA X xs (tEs X.K cx es)) (h:(match c.fns[f]? with
 | some (m,ps)=>decide (m = n) && globIs c n && decide (ps.length = esLen es) && ckEs c es xs && noPk es && !xs.isEmpty
 | none=>false) = true):PE X (.Call (.Name n p) xs [] pos) (tE X.K cx (.call f es)):=by
 split at h
 · rename_i m ps ef
   simp only [Bool.and_eq_true] at h
   obtain ⟨⟨⟨⟨⟨h1,h2⟩,h3⟩,h4⟩,h5⟩,h6⟩:=h
   have e:=of_decide_eq_true h1
   subst e
   obtain ⟨a,fd,hm,hk,hb,fn⟩:=C.fns f _ _ ef
   obtain ⟨g1,g2,g3⟩:=C.global h2
   cases xs with
   | nil=>simp at h6
   | cons y ys =>
     obtain ⟨_,_,_,a1,a2⟩:=ckEs_cons h4
     exact snd_call h5 fn C.room g1 hm hk hb hA g2 (head_star (ck_head a1) _ _) (star_any a2)
 · cases h
theorem blt_of {X:Cx} {c:Ck} {f:Blt} {es:Es} {p pos:Pos} {y:Expr} {ys:List Expr} (C:Cok X c cx k) (hg:globIs c (bltNm f) = true) (ht:tyName f = none) (hA:PA X (y::ys) (tEs X.K cx es)) (h:ckEs c es (y::ys) = true):PE X (.Call (.Name (bltNm f) p) (y::ys) [] pos) (tE X.K cx (.blt f es)):=by
 obtain ⟨g1,g2,g3⟩:=C.global hg
 obtain ⟨e,es',rfl,h1,h2⟩:=ckEs_cons h
 have he:=head_star (ck_head h1) ys X.env
 have hpl:=star_any (env:=X.env) (pos:=pos) h2
 cases f with
 | len=>exact snd_blt lenD rfl (pe_callB cb_len g1 (C.blt _ (by decide +kernel)) rfl hA g3 g2 he hpl)
 | min=>exact snd_blt minD rfl (pe_callB (cb_min C.calm) g1 (C.blt _ (by decide +kernel)) rfl hA g3 g2 he hpl)
 | max=>exact snd_blt maxD rfl (pe_callB (cb_max C.calm) g1 (C.blt _ (by decide +kernel)) rfl hA g3 g2 he hpl)
 | toInt=>exact snd_blt toIntD rfl (pe_callTy cb_int g1 (C.blt _ (by decide +kernel)) rfl hA g3 g2 he hpl)
 | toStr=>exact snd_blt toStrD rfl (pe_callTy cb_str g1 (C.blt _ (by decide +kernel)) rfl hA g3 g2 he hpl)
 | toTup=>exact snd_blt toTupD rfl (pe_callTy cb_tup g1 (C.blt _ (by decide +kernel)) rfl hA g3 g2 he hpl)
 | toLst=>exact snd_blt toLstD rfl (pe_callTy cb_lst g1 (C.blt _ (by decide +kernel)) rfl hA g3 g2 he hpl)
 | _=>cases ht
end
end PP
end
section
namespace PP
open PySem L2 PyProof.Rows
variable [Tbs]
section
variable {X:Cx} {cx:Cl} {k:Nat}
theorem FnV.at {pins:List (Addr × Obj)} {σ:L2.St} {H:Hp} {s:Shared} {n:Nat} {cs:List D} {a:Addr} (I:Inv X pins σ H s) (h:FnV H n cs a):PySem.W.FnAt a s.heap:=by
 obtain ⟨L,pm,ctv,c',oc,vs,tk,cells,h1,h2,_⟩:=h
 exact ⟨_,_,_,_,(I.hok a _ h2).1⟩
theorem snd_callv {c:Ck} (C:Cok X c cx k) {i:Nat} {es:Es} {x:Str} {y:Expr} {ys:List Expr} {p pos:Pos} (hx:nameIs c i x = true) (n:noPk es = true) (hA:PA X (y::ys) (tEs X.K cx es)) (he:starEach (y::ys) X.env = (false,eval y X.env)::starEach ys X.env) (hpl:(backTo pos (starEach ys X.env)).any (·.1) = false) :
 PE X (.Call (.Name x p) (y::ys) [] pos) (tE X.K cx (.callv i es)):=by
 obtain ⟨n1,n2,n3,n4⟩:=C.name hx
 intro pins s σ H Q I h
 obtain ⟨G,F,δ,d,δ',ok,ev,post⟩:=h
 simp only [evE,Option.bind_eq_bind,Option.bind_eq_some_iff] at ev
 obtain ⟨⟨ds,δ1⟩,ea,ev⟩:=ev
 cases q:δ[i]? with
 | none=>rw [q] at ev;cases ev
 | some sl =>
   rw [q] at ev
   cases sl with
   | no=>cases ev
   | val _=>cases ev
   | own _=>cases ev
   | fnc m cs =>
     dsimp only at ev
     split at ev
     · rename_i hl
       rw [Option.map_eq_some_iff] at ev
       obtain ⟨r,er,e⟩:=ev
       cases e
       have er':cx.call m (ds++cs) = some d∧lf d = true:=by
        cases z:cx.call m (ds++cs) with
        | none=>rw [z] at er;cases er
        | some r =>
          rw [z] at er
          unfold lfO at er
          split at er
          · split at er
            · rename_i e2 h2;cases er;cases e2;exact ⟨rfl,h2⟩
            · cases er
          · cases er
       obtain ⟨a,es',fv⟩:=ok.sl i _ q
       refine wpAny_Call_Name_kw (thn (pe_var n1 n2 n3 n4 pins s σ H (fun v H1=>v = .ref a∧H1 = H) I ⟨.ref a,es',rfl,rfl⟩) fun u s1 ⟨v,H1,I1,rv,e1,e2⟩=>?_)
       subst e1;subst e2
       obtain rfl:u = Value.ref a:=rv
       refine PySem.W.callWith_F (fv.at I1) (thn (hA pos pins s1 σ H1 (fun vs H2=>∃ F2,Step G F H1 F2 H2∧(npS es = true→Sim H1 H2)∧Ok X.K G F2 σ H2 δ'∧RelL X.K H2 F2 ds vs) I1 ⟨G,F,δ,ds,δ',ok,ea,fun vs H2 F2 st sm ok2 r2=>⟨F2,st,sm,ok2,r2.rl n⟩⟩) fun us s2 ⟨vs,H2,I2,rvs,F2,st,sm,ok2,rl⟩=>?_) he hpl
       have fv2:FnV H2 m cs a:=fv.keep (fz_keep ok.fd st.keep)
       refine ⟨fv2.at I2,?_⟩
       refine wpAny_call (codeAny_mono (C.lam m cs H2 a fv2 X.A X.stack s2 H2 a us vs cs Q C.room I2.env0 rvs fv2 ⟨F2,ds,d,ok2.fd,ok2.tf,ok2.tabs,rl,hl,er'.1,er'.2,fun v H' s3 t3 r3=>?_⟩) fun r s' hq=>?_)
       · exact post v H' F2 (st.trans (ok2.call s3 t3).2) (fun z=>(sm z).trans s3) (ok2.call s3 t3).1 (relm r3)
       · cases r with
         | error e=>exact (pass0 pins σ H2 s2 e s' I2 hq)
         | ok fl =>
           cases fl with
           | ret u=>exact I2.after hq
           | next=>exact False.elim hq
           | brk=>exact False.elim hq
           | cont=>exact False.elim hq
     · cases ev
def tEsL (K:PySem.W.Frag) (cx:Cl) (es:Es) (tz:TE):TA:=fun σ H Q=>∃ G F δ ds δ',Ok K G F σ H δ∧evEs cx es δ = some (ds,δ') ∧
 ∀ vs H' F',Step G F H F' H'→(npS es = true→Sim H H')→Ok K G F' σ H' δ'→RelML K H' F' es ds vs→tz σ H' fun v H2=>Q (vs++[v]) H2
theorem snd_nilL {z:Expr} {tz:TE} (hz:PE X z tz) (hs:starEach [z] X.env = (false,eval z X.env)::starEach [] X.env):PA X [z] (tEsL X.K cx .nil tz):=by
 refine fun pos pins s σ H Q I h=>pa_cons hz pa_nil hs pos pins s σ H Q I ?_
 obtain ⟨G,F,δ,ds,δ',ok,ev,post⟩:=h
 simp only [evEs] at ev
 cases ev
 exact post [] H F Step.refl (fun _=>Sim.refl H) ok ⟨rfl,rfl⟩
theorem snd_consL {a:E} {es:Es} {y z:Expr} {ys:List Expr} {tz:TE} (pc:(!isPk a || npS es) = true) (ha:PE X y (tE X.K cx a)) (hr:PA X (ys++[z]) (tEsL X.K cx es tz)) (hs:starEach (y::(ys++[z])) X.env = (false,eval y X.env)::starEach (ys++[z]) X.env):PA X (y::ys++[z]) (tEsL X.K cx (.cons a es) tz):=by
 refine fun pos pins s σ H Q I h=>pa_cons ha hr hs pos pins s σ H Q I ?_
 obtain ⟨G,F,δ,ds,δ',ok,ev,post⟩:=h
 simp only [evEs,Option.bind_eq_bind,Option.bind_eq_some_iff] at ev
 obtain ⟨⟨x,δ1⟩,ea,⟨ds',δ2⟩,eb,e⟩:=ev
 cases e
 refine ⟨G,F,δ,x,δ1,ok,ea,fun v H1 F1 st1 sm1 ok1 r1=>⟨G,F1,δ1,ds',δ2,ok1,eb,fun vs H2 F2 st2 sm2 ok2 r2=>?_⟩⟩
 refine post (v::vs) H2 F2 (st1.trans st2) (fun z=>?_) ok2 ⟨x,ds',v,vs,rfl,rfl,RelM.step ok1.fd st2 (fun z=>sm2 (by rw [z] at pc;simpa using pc)) r1,r2⟩
 have z':(np a && npS es) = true:=z
 rw [Bool.and_eq_true] at z'
 exact (sm1 z'.1).trans (sm2 z'.2)
theorem star_anyL {c:Ck} {env:Env} {pos:Pos} {z:Expr} (hz:starEach [z] env = (false,eval z env)::starEach [] env):∀ {es:Es} {ys:List Expr},ckEs c es ys = true→(backTo pos (starEach (ys++[z]) env)).any (·.1) = false
 | .nil,ys,h=>by
   obtain ⟨rfl,_⟩:=on0_of h
   rw [List.nil_append,hz];rfl
 | .cons e es,ys,h=>by
   obtain ⟨_,_,rfl,hh⟩:=onS_of h
   rw [Bool.and_eq_true] at hh
   rw [List.cons_append,head_star (ck_head hh.1)]
   show (false || (backTo pos (starEach _ env)).any (·.1)) = false
   rw [star_anyL hz hh.2];rfl
theorem snd_callF {c:Ck} (C:Cok X c cx k) {f i:Nat} {es:Es} {x g:Str} {y:Expr} {ys:List Expr} {a:Addr} {fd:FuncData} {ps:List Str} {p gp pos:Pos} (n:noPk es = true) (hx:nameIs c i g = true) (fn:FnOk X.prog X.w X.K X.mg X.base CX0 k a fd ps (spFF X.K (cx.call f))) (hg:Gl X x)
 (hm:X.mg x = some (.ref a)) (hk:PySem.W.keepIn X.K (.ref a) = true) (hb:Binds X.K fd ps []) (hA:PA X (y::(ys++[.Name g gp])) (tEsL X.K cx es (tVar i))) (hd:(x == ("__debug__":Str)) = false) (he:starEach (y::(ys++[.Name g gp])) X.env = (false,eval y X.env)::starEach (ys++[.Name g gp]) X.env) (hpl:(backTo pos (starEach (ys++[.Name g gp]) X.env)).any (·.1) = false) :
 PE X (.Call (.Name x p) (y::(ys++[.Name g gp])) [] pos) (tE X.K cx (.callF f es i)):=by
 refine PE.imp (pe_call fn C.room hg hm hk hb .nil (pass0) hA hd he hpl) fun σ H Q h=>?_
 obtain ⟨G,F,δ,d,δ',ok,ev,post⟩:=h
 simp only [evE,Option.bind_eq_bind,Option.bind_eq_some_iff] at ev
 obtain ⟨⟨ds,δ1⟩,ea,ev⟩:=ev
 dsimp only at ev
 cases q:δ1[i]? with
 | none=>rw [q] at ev;cases ev
 | some sl =>
   rw [q] at ev
   cases sl with
   | no=>cases ev
   | val _=>cases ev
   | own _=>cases ev
   | fnc m cs =>
     dsimp only at ev
     split at ev
     · rw [Option.map_eq_some_iff] at ev
       obtain ⟨r,er,e⟩:=ev
       cases e
       refine ⟨G,F,δ,ds,δ',ok,ea,fun vs H1 F1 st1 sm1 ok1 r1=>?_⟩
       obtain ⟨b,eb,fv⟩:=ok1.sl i _ q
       refine ⟨.ref b,eb,?_⟩
       show spFF X.K (cx.call f) (vs++[.ref b]++[]) H1 Q E0
       rw [List.append_nil]
       exact ⟨F1,ds,vs,m,cs,b,d,ok1.fd,ok1.tf,ok1.tabs,rfl,r1.rl n,fv,er,fun v H2 s2 t2 r2=>post v H2 F1 (st1.trans (ok1.call s2 t2).2) (fun z=>(sm1 z).trans s2) (ok1.call s2 t2).1 (relm r2)⟩
     · cases ev
theorem callv_of {c:Ck} (C:Cok X c cx k) {i:Nat} {es:Es} {n:Str} {p pos:Pos} {xs:List Expr} (hA:PA X xs (tEs X.K cx es)) (h:(nameIs c i n && ckEs c es xs && noPk es && !xs.isEmpty) = true):PE X (.Call (.Name n p) xs [] pos) (tE X.K cx (.callv i es)):=by
 simp only [Bool.and_eq_true] at h
 obtain ⟨⟨⟨h1,h2⟩,h3⟩,h4⟩:=h
 cases xs with
 | nil=>simp at h4
 | cons y ys =>
   obtain ⟨_,_,_,a1,a2⟩:=ckEs_cons h2
   exact snd_callv C h1 h3 hA (head_star (ck_head a1) _ _) (star_any a2)
theorem callF_of {c:Ck} (C:Cok X c cx k) {f i:Nat} {es:Es} {n:Str} {p pos:Pos} {xs:List Expr} (hA:ckEs c es xs.dropLast = true→okEs es = true→∀ z tz,PE X z tz→starEach [z] X.env = (false,eval z X.env)::starEach [] X.env→PA X (xs.dropLast++[z]) (tEsL X.K cx es tz))
 (h:(match c.fns[f]?,xs.getLast? with
   | some (m,ps),some y=>onName y fun y=>decide (m = n) && globIs c n && decide (ps.length = esLen es+1) && ckEs c es xs.dropLast && noPk es && nameIs c i y && !xs.dropLast.isEmpty
   | _,_=>false) = true):PE X (.Call (.Name n p) xs [] pos) (tE X.K cx (.callF f es i)):=by
 split at h
 · rename_i m ps gx ef eg
   obtain ⟨g,gp,rfl,hh⟩:=onName_of h
   simp only [Bool.and_eq_true] at hh
   obtain ⟨⟨⟨⟨⟨⟨h1,h2⟩,h3⟩,h4⟩,h5⟩,h6⟩,h7⟩:=hh
   obtain ⟨ys,rfl⟩:=List.getLast?_eq_some_iff.mp eg
   rw [List.dropLast_concat] at h4 h7 hA
   by_cases hf:cx.hf f = true
   · obtain ⟨a,fd,hm,hk,hb,fn⟩:=C.fnF f _ _ ef hf
     have e:=of_decide_eq_true h1
     subst e
     obtain ⟨g1,g2,g3⟩:=C.global h2
     obtain ⟨n1,n2,n3,n4⟩:=C.name h6
     have A:=hA h4 (noPk_ok h5) (.Name g gp) (tVar i) (pe_var n1 n2 n3 n4) rfl
     cases ys with
     | nil=>simp at h7
     | cons y ys =>
       obtain ⟨_,_,_,a1,a2⟩:=ckEs_cons h4
       exact snd_callF C h5 h6 fn g1 hm hk hb A g2 (head_star (ck_head a1) _ _) (star_anyL rfl a2)
   · intro pins s σ H Q I h
     obtain ⟨G,F,δ,d,δ',ok,ev,post⟩:=h
     simp only [evE,Option.bind_eq_bind,Option.bind_eq_some_iff] at ev
     obtain ⟨⟨ds,δ1⟩,ea,ev⟩:=ev
     dsimp only at ev
     split at ev
     · rw [if_neg hf] at ev;cases ev
     · cases ev
 · cases h
end
end PP
end
section
namespace PP
open PySem L2 PyProof.Rows
variable [Tbs]
section
variable {K:PySem.W.Frag} {cx:Cl} {P:Program} {w:World} {k:Nat}
end
end PP
end
section
namespace PP
open PySem L2 PyProof.Rows
variable [Tbs]
section
variable {cx:Cl} {k:Nat}
end
end PP
end
section
namespace PP
open PySem L2 PyProof.Rows
variable [Tbs]
section
variable {cx:Cl} {k:Nat}
theorem snd_ssd {X:Cx} {c:Ck} {a:E} {y:Expr} {p p2 pos cp:Pos} (C:Cok X c cx k) (gg:Gl X "sorted") (gm:X.mg "sorted" = none) (gn:("sorted":Str)≠"__name__") (gd:(("sorted":Str) == ("__debug__":Str)) = false)
 (fg:Gl X "set") (fm:X.mg "set" = none) (fn:("set":Str)≠"__name__") (fd:(("set":Str) == ("__debug__":Str)) = false) (np':(!isPk a) = true) (ha:PE X y (tE X.K cx a))
 (he:starEach [y] X.env = (false,eval y X.env)::starEach [] X.env):PE X (.Call (.Name "sorted" p) [.Call (.Name "set" p2) [y] [] cp] [] pos) (tE X.K cx (.ssd a)):=by
 have hS:PE X (.Call (.Name "set" p2) [y] [] cp) _:=pe_callTy (call_setD C.calm C.units) fg fm rfl (pa_cons ha pa_nil he) fn fd he rfl
 refine PE.imp (pe_callB (call_sortedY C.calm C.units) gg gm rfl (pa_cons hS pa_nil rfl) gn gd rfl rfl) fun σ H Q h=>?_
 obtain ⟨G,F,δ,d,δ',ok,ev,post⟩:=h
 simp only [evE,Option.bind_eq_bind,Option.bind_eq_some_iff] at ev
 obtain ⟨⟨x,δ1⟩,ea,ev⟩:=ev
 cases x with
 | lst ds =>
   dsimp only at ev
   split at ev
   · rename_i hs
     cases ev
     rw [Bool.and_eq_true,Bool.and_eq_true] at hs
     refine ⟨G,F,δ,_,_,ok,ea,fun v H1 F1 st sm ok1 r=>?_⟩
     obtain ⟨q,ys,rfl,h1,h2⟩:=r.b.lst
     obtain ⟨p1,p2',p3⟩:=pairs_of h2
     have ed:((ds.zip ys).foldl addP []).map (·.1) = dedD ds:=by
      rw [foldP_fst,p1]
      rfl
     have hl:((ds.zip ys).foldl addP []).length < 64:=by
      have:=(sortable_inv hs.1.2).1
      rw [← ed,List.length_map] at this
      exact this
     refine ⟨F1,q,ds,ys,rfl,h1.sq,h2,hs.1.1,hl,fun D hD=>?_⟩
     have sd:=same_new hD (setY X D ((ds.zip ys).foldl addP []))
     have ok2:=ok1.same' sd
     refine ⟨F1,D,(ds.zip ys).foldl addP [],rfl,upd_same,fun q hq=>?_,by rw [ed];exact hs.1.2,by rw [ed];exact hs.2,fun p' zs hp' rl=>?_⟩
     · rcases foldP_mem _ _ hq with z | z
       · cases z
       · exact ⟨List.all_eq_true.mp hs.1.1 q.1 (by rw [← p1];exact List.mem_map_of_mem z),Rel.step ok1.fd (step0 sd) _ _ (p3 q z)⟩
     · rw [ed] at rl
       have sp:=same_new hp' (.lst zs)
       refine post _ _ F1 ((st.trans (Step.of_same sd)).trans (Step.of_same sp)) (fun z=>((sm z).trans (.of sd)).trans (.of sp)) (ok2.same' sp) (relm ?_)
       unfold Rel
       exact ⟨p',zs,rfl,.inl ⟨.inl upd_same,not_F ok2.fd hp'⟩,RelL.step ok2.fd (step0 sp) _ _ rl⟩
   · cases ev
 | _=>cases ev
end
section
variable {cx:Cl} {δ:Loc}
theorem wE_ssd {a:E} {Q:D→Loc→Prop}:wE cx (.ssd a) δ Q↔wE cx a δ fun x δ1=>∃ ds,x = .lst ds∧ds.all hok = true∧sortable (dedD ds) = true∧tot (dedD ds) = true∧Q (.lst (sortL (dedD ds))) δ1:=by
 unfold wE
 simp only [evE,Option.bind_eq_bind,Option.bind_eq_some_iff,Prod.exists]
 constructor
 · rintro ⟨d,δ',⟨x,δ1,h1,e⟩,q⟩
   refine ⟨x,δ1,h1,?_⟩
   split at e
   · rename_i h
     cases h
     split at e
     · rename_i hh
       cases e
       rw [Bool.and_eq_true,Bool.and_eq_true] at hh
       exact ⟨_,rfl,hh.1.1,hh.1.2,hh.2,q⟩
     · cases e
   · cases e
 · rintro ⟨x,δ1,h1,ds,rfl,l1,l2,l3,q⟩
   exact ⟨_,_,⟨_,_,h1,by dsimp only;rw [if_pos (by rw [l1,l2,l3];rfl)]⟩,q⟩
end
end PP
end
section
namespace PP
open PySem PySem.Spec L2 PyProof.Rows
variable [Tbs]
end PP
end
section
namespace PP
open PySem L2 PyProof.Rows
variable [Tbs]
section
variable {K:PySem.W.Frag} {cx:Cl} {w:World}
end
section
variable {cx:Cl} {δ:Loc}
end
end PP
end
section
namespace PP
open PySem L2 PyProof.Rows
variable [Tbs]
section
variable {cx:Cl} {k:Nat}
theorem tgNames_len {c:Ck} {tg:Tg} {ts:List Str} {kk:Nat} (h:ts.length = kk):(maskN ts c.N++ts).length = c.N.length+kk:=by
 unfold maskN
 rw [List.length_append,List.length_map,h]
theorem ckI_set {c:Ck} {t:It} {x:Expr} (h:ckI c t x = true) (env:Env) (v:Value):foldedSetIterable x env v = pure v:=by
 cases t with
 | rng e=>obtain ⟨_,_,_,_,rfl,_⟩:=onCN_of h;rfl
 | sq e =>
   have h:(ckE c e x && !isPk e) = true:=h
   rw [Bool.and_eq_true] at h
   exact head_set (ck_head h.1) env v
theorem blt_any {X:Cx} {c:Ck} {f:Blt} {es:Es} {x:Expr} (C:Cok X c cx k) (h:ckE c (.blt f es) x = true) (hE:∀ e y,es = .cons e .nil→ckE c e y = true→PE X y (tE X.K cx e)) (hA:∀ xs,ckEs c es xs = true→okEs es = true→PA X xs (tEs X.K cx es)) :
 PE X x (tE X.K cx (.blt f es))∧∀ whole,isTrue x X.env whole = (do let v ← whole;standAt x.pos;holding [v] (truthy v)):=by
 obtain ⟨n,np,xs,p,rfl,hh⟩:=onCN_of h
 refine ⟨?_,fun _=>rfl⟩
 simp only [Bool.and_eq_true] at hh
 obtain ⟨⟨h1,h2⟩,h3⟩:=hh
 have e:=of_decide_eq_true h1
 subst e
 cases hT:tyName f with
 | some T =>
   rw [hT] at h3
   obtain ⟨y,w,rfl,h4⟩:=on2_of h3
   obtain ⟨t,tp,rfl,h5⟩:=onName_of h4
   simp only [Bool.and_eq_true] at h5
   obtain ⟨⟨⟨a1,a2⟩,a3⟩,a4⟩:=h5
   have et:=of_decide_eq_true a1
   cases es with
   | nil=>exact absurd (on0_of a3).1 (by simp)
   | cons e es' =>
     obtain ⟨_,_,q0,a3'⟩:=onS_of a3
     cases q0
     rw [Bool.and_eq_true] at a3'
     cases es' with
     | cons _ _=>obtain ⟨_,_,q0,_⟩:=onS_of a3'.2;cases q0
     | nil =>
       have q:=hE e y rfl a3'.1
       obtain ⟨t1,t2,t3⟩:=C.global a2
       have tb:t∈bltNames:=by
        subst et
        cases f<;>simp [tyName] at hT<;>subst hT<;>decide +kernel
       have hs:starEach [y,.Name t tp] X.env = [(false,eval y X.env),(false,eval (.Name t tp) X.env)]:=by rw [head_star (ck_head a3'.1)];rfl
       have nm:bltNm f = ("isinstance":Str):=by cases f<;>simp [tyName] at hT<;>rfl
       rw [nm] at h2 ⊢
       obtain ⟨g1,_,_⟩:=C.global h2
       exact snd_is hT et g1 (C.blt _ (by decide +kernel)) t1 (C.blt _ tb) q hs
 | none =>
   rw [hT] at h3
   simp only [Bool.and_eq_true] at h3
   obtain ⟨⟨b1,b2⟩,b3⟩:=h3
   cases xs with
   | nil=>simp at b1
   | cons y ys=>exact blt_of C h2 hT (hA _ b2 b3) b2
theorem callT {X:Cx} {c:Ck} {f:Nat} {es:Es} {x:Expr} (C:Cok X c cx k) (h:ckE c (.call f es) x = true) (hA:∀ xs,ckEs c es xs = true→okEs es = true→PA X xs (tEs X.K cx es)) :
 PE X x (tE X.K cx (.call f es))∧∀ whole,isTrue x X.env whole = (do let v ← whole;standAt x.pos;holding [v] (truthy v)):=by
 obtain ⟨n,np,xs,p,rfl,hh⟩:=onCN_of h
 refine ⟨?_,fun _=>rfl⟩
 have h':=hh
 split at h'
 · simp only [Bool.and_eq_true] at h'
   exact call_of C (hA _ h'.1.1.2 (noPk_ok h'.1.2)) hh
 · cases h'
theorem noT {X:Cx} {e:E} {x:Expr} (h:∀ δ,evT cx e δ = none):PT X x (tT X.K cx e):=fun pins s σ H Q I q=>by
 obtain ⟨G,F,δ,b,δ',ok,ev,post⟩:=q
 rw [h] at ev
 cases ev
mutual
theorem sndE:∀ (e:E) (X:Cx) (c:Ck) (x:Expr),Cok X c cx k→ckE c e x = true→PE X x (tE X.K cx e)
 | .var i,X,c,x,C,h=>by
   obtain ⟨_,_,rfl,hq1⟩:=onName_of h
   replace h:=hq1
   · obtain ⟨n1,n2,n3,n4⟩:=C.name h
     exact snd_var n1 n2 n3 n4
 | .pk i,X,c,x,C,h=>by
   obtain ⟨_,_,rfl,hq1⟩:=onName_of h
   replace h:=hq1
   · obtain ⟨n1,n2,n3,n4⟩:=C.name h
     exact snd_pk n1 n2 n3 n4
 | .glob g,X,c,x,C,h=>by
   obtain ⟨_,_,rfl,hq1⟩:=onName_of h
   replace h:=hq1
   · rw [Bool.and_eq_true] at h
     have e:=of_decide_eq_true h.1
     obtain ⟨g1,g2,g3⟩:=C.global h.2
     obtain ⟨d,hd⟩:=C.gsome g _ e
     obtain ⟨u,v,hm,r,hr⟩:=C.glob g _ d e hd
     exact snd_glob g1 hm r (fun d' hd'=>by rw [hd] at hd';cases hd';exact hr) g2
 | .int i,X,c,x,C,h=>by
   obtain ⟨_,_,_,rfl,hq1⟩:=onC_of h
   obtain ⟨_,rfl,hq2⟩:=onI_of hq1
   replace h:=hq2
   · have e:=of_decide_eq_true h;subst e;exact snd_int
 | .bl i,X,c,x,C,h=>by
   obtain ⟨_,_,_,rfl,hq1⟩:=onC_of h
   obtain ⟨_,rfl,hq2⟩:=onB_of hq1
   replace h:=hq2
   · have e:=of_decide_eq_true h;subst e;exact snd_bl
 | .non,X,c,x,C,h=>by
   obtain ⟨_,_,_,rfl,hq1⟩:=onC_of h
   replace h:=hq1
   have e:=isNon_of h
   subst e
   exact snd_non
 | .str i,X,c,x,C,h=>by
   obtain ⟨_,_,_,rfl,hq1⟩:=onC_of h
   obtain ⟨_,rfl,hq2⟩:=onT_of hq1
   replace h:=hq2
   · have e:=of_decide_eq_true h;subst e;exact snd_str
 | .bin op a b,X,c,x,C,h=>by
   obtain ⟨_,_,_,_,rfl,hq1⟩:=onBin_of h
   replace h:=hq1
   · simp only [Bool.and_eq_true] at h
     obtain ⟨⟨⟨h1,h2⟩,h3⟩,h4⟩:=h
     exact snd_bin h1 h4 (sndE a X c _ C h2) (sndE b X c _ C h3)
 | .cmp op a b,X,c,x,C,h=>by
   obtain ⟨_,_,_,_,rfl,hq1⟩:=onCmp_of h
   obtain ⟨_,rfl,hq2⟩:=on1_of hq1
   obtain ⟨_,rfl,hq3⟩:=on1_of hq2
   replace h:=hq3
   · simp only [Bool.and_eq_true] at h
     obtain ⟨⟨⟨h1,h2⟩,h3⟩,h4⟩:=h
     exact snd_cmp C.units h1 h4 (sndE a X c _ C h2) (sndE b X c _ C h3) (head_mark (ck_head h3) _)
 | .and a b,X,c,x,C,h=>by
   obtain ⟨o,_,p,rfl,hq1⟩:=onBo_of h
   obtain ⟨y,r,rfl,hq2⟩:=onS_of hq1
   obtain ⟨z,r2,rfl,hq3⟩:=onS_of hq2
   simp only [Bool.and_eq_true] at hq3
   obtain ⟨⟨⟨⟨h0,h1⟩,h2⟩,h3⟩,h4⟩:=hq3
   cases o<;>first | (cases h0;done) | skip
   cases r2 with
   | nil=>exact snd_and h3 h4 (sndE a X c _ C h1) (pe_one (sndE b X c _ C h2))
   | cons w r=>exact snd_and h3 h4 (sndE a X c _ C h1) (sndE b X c _ C h2)
 | .or a b,X,c,x,C,h=>by
   obtain ⟨o,_,p,rfl,hq1⟩:=onBo_of h
   obtain ⟨y,r,rfl,hq2⟩:=onS_of hq1
   obtain ⟨z,r2,rfl,hq3⟩:=onS_of hq2
   simp only [Bool.and_eq_true] at hq3
   obtain ⟨⟨⟨⟨h0,h1⟩,h2⟩,h3⟩,h4⟩:=hq3
   cases o<;>first | (cases h0;done) | skip
   cases r2 with
   | nil=>exact snd_or h3 h4 (sndE a X c _ C h1) (pe_one (sndE b X c _ C h2))
   | cons w r=>exact snd_or h3 h4 (sndE a X c _ C h1) (sndE b X c _ C h2)
 | .not a,X,c,x,C,h=>by
   obtain ⟨o,_,_,rfl,hh⟩:=onUn_of h
   simp only [Bool.and_eq_true] at hh
   obtain rfl:=isNot_of hh.1.1
   exact snd_not hh.2 (sndE a X c _ C hh.1.2)
 | .ssd a,X,c,x,C,h=>by
   obtain ⟨_,_,_,_,rfl,hq1⟩:=onCN_of h
   obtain ⟨_,rfl,hq2⟩:=on1_of hq1
   obtain ⟨_,_,_,_,rfl,hq3⟩:=onCN_of hq2
   obtain ⟨_,rfl,hq4⟩:=on1_of hq3
   replace h:=hq4
   · simp only [Bool.and_eq_true] at h
     obtain ⟨⟨⟨⟨⟨h1,h2⟩,h3⟩,h4⟩,h5⟩,h6⟩:=h
     have e1:=of_decide_eq_true h1
     have e2:=of_decide_eq_true h2
     subst e1 e2
     obtain ⟨g1,g2,g3⟩:=C.global h3
     obtain ⟨f1,f2,f3⟩:=C.global h4
     exact snd_ssd C g1 (C.blt _ (by decide +kernel)) g3 g2 f1 (C.blt _ (by decide +kernel)) f3 f2 h6 (sndE a X c _ C h5) (head_star (ck_head h5) _ _)
 | .ite t a b,X,c,x,C,h=>by
   obtain ⟨_,_,_,_,rfl,hq1⟩:=onIf_of h
   replace h:=hq1
   · simp only [Bool.and_eq_true] at h
     obtain ⟨⟨⟨⟨h1,h2⟩,h3⟩,h4⟩,h5⟩:=h
     exact snd_ite h4 h5 (sndT t X c _ C h1) (sndE a X c _ C h2) (sndE b X c _ C h3)
 | .tup es,X,c,x,C,h=>by
   obtain ⟨_,_,_,rfl,hq1⟩:=onTup_of h
   replace h:=hq1
   · rw [Bool.and_eq_true] at h
     exact snd_tup h.2 (sndEs es X c _ C h.1 (noPk_ok h.2))
 | .lst es,X,c,x,C,h=>by
   obtain ⟨_,_,rfl,hq1⟩:=onLst_of h
   replace h:=hq1
   · rw [Bool.and_eq_true] at h
     exact snd_lst h.2 (sndEs es X c _ C h.1 (noPk_ok h.2))
 | .ix a b,X,c,x,C,h=>by
   obtain ⟨_,_,_,rfl,hq1⟩:=onSub_of h
   replace h:=hq1
   · simp only [Bool.and_eq_true] at h
     obtain ⟨⟨⟨h1,h2⟩,h3⟩,h4⟩:=h
     exact snd_ix h3 (sndE a X c _ C h1) (sndE b X c _ C h2) (head_ix (ck_head h2))
 | .sl a lo hi,X,c,x,C,h=>by
   obtain ⟨_,_,_,rfl,hh⟩:=onSub_of h
   obtain ⟨_,_,o,_,rfl,h9⟩:=onSl_of hh
   simp only [Bool.and_eq_true] at h9
   obtain ⟨h0,⟨⟨h1,h2⟩,h3⟩,h4⟩:=h9
   obtain rfl:=Option.isNone_iff_eq_none.mp h0
   exact snd_sl (by simpa using h4) (sndE a X c _ C h1) (sndO lo X c _ C h2) (sndO hi X c _ C h3)
 | .call f es,X,c,x,C,h=>(callT C h fun xs h1 h2=>sndEs es X c xs C h1 h2).1
 | .blt f .nil,X,c,x,C,h=>(blt_any C h (fun e y z=>by cases z) fun xs h1 h2=>sndEs .nil X c xs C h1 h2).1
 | .blt f (.cons e .nil),X,c,x,C,h=>(blt_any C h (fun e' y z h1=>by cases z;exact sndE e X c y C h1) fun xs h1 h2=>sndEs (.cons e .nil) X c xs C h1 h2).1
 | .blt f (.cons e (.cons e2 es)),X,c,x,C,h=>(blt_any C h (fun e' y z=>by cases z) fun xs h1 h2=>sndEs (.cons e (.cons e2 es)) X c xs C h1 h2).1
 | .callv i es,X,c,x,C,h=>by
   obtain ⟨_,_,_,_,rfl,hq1⟩:=onCN_of h
   replace h:=hq1
   · exact callv_of C (sndEs es X c _ C (by simp only [Bool.and_eq_true] at h;exact h.1.1.2) (by simp only [Bool.and_eq_true] at h;exact noPk_ok h.1.2)) h
 | .callF f es i,X,c,x,C,h=>by
   obtain ⟨_,_,_,_,rfl,hq1⟩:=onCN_of h
   replace h:=hq1
   · exact callF_of C (fun h1 h2 z tz hz hs=>sndEsL es X c _ z tz C h1 h2 hz hs) h
 | .pop i,X,c,x,C,h=>by
   obtain ⟨_,_,_,_,_,rfl,hln,hh⟩:=onM_of h
   obtain ⟨_,_,rfl,h2⟩:=onName_of hh
   obtain ⟨rfl,h3⟩:=on0_of h2
   rw [Bool.and_eq_true] at h3
   have e:=of_decide_eq_true h3.1
   subst e
   obtain ⟨n1,n2,n3,n4⟩:=C.name h3.2
   exact snd_pop n1 n2 n3 n4 hln
 | .isdig i,X,c,x,C,h=>by
   obtain ⟨_,_,_,_,_,rfl,hln,hh⟩:=onM_of h
   obtain ⟨_,_,rfl,h2⟩:=onName_of hh
   obtain ⟨rfl,h3⟩:=on0_of h2
   rw [Bool.and_eq_true] at h3
   have e:=of_decide_eq_true h3.1
   subst e
   obtain ⟨n1,n2,n3,n4⟩:=C.name h3.2
   exact snd_isdig n1 n2 n3 n4 hln
 | .comp kk tg src ifs elt,X,c,x,C,h=>by
   obtain ⟨_,_,_,_,rfl,hq1⟩:=onLC_of h
   obtain ⟨_,rfl,hq2⟩:=on1_of hq1
   obtain ⟨_,_,_,rfl,hq3⟩:=onG_of hq2
   replace h:=hq3
   · split at h
     · rename_i ts ht
       simp only [Bool.and_eq_true] at h
       obtain ⟨⟨⟨⟨⟨⟨⟨⟨h1,h2⟩,h3⟩,h4⟩,h5⟩,h6⟩,h7⟩,h8⟩,h9⟩:=h
       have nd:=(names_of' h4).1
       exact snd_comp C h9 (tgNames_len (tg:=tg) (of_decide_eq_true h1)) h2 h3 h4 (fun cl Ca s H fp=>snd_tg (cok_block C h3 nd cl Ca s H fp) h5) (sndI src X c _ _ C h6)
        (fun cl Ca s H fp=>sndG ifs _ _ _ (cok_block C h3 nd cl Ca s H fp) h7) (fun cl Ca s H fp=>sndE elt _ _ _ (cok_block C h3 nd cl Ca s H fp) h8) (fun v=>ckI_set h6 _ v)
     · cases h
theorem sndT:∀ (e:E) (X:Cx) (c:Ck) (x:Expr),Cok X c cx k→ckE c e x = true→PT X x (tT X.K cx e)
 | .var i,X,c,x,C,h=>by
   obtain ⟨_,_,rfl,hq1⟩:=onName_of h
   replace h:=hq1
   · obtain ⟨n1,n2,n3,n4⟩:=C.name h
     exact sndT_var (.inl rfl) n1 n2 n3 n4
 | .pk i,X,c,x,C,h=>by
   obtain ⟨_,_,rfl,hq1⟩:=onName_of h
   replace h:=hq1
   · obtain ⟨n1,n2,n3,n4⟩:=C.name h
     exact sndT_var (.inr rfl) n1 n2 n3 n4
 | .cmp op a b,X,c,x,C,h=>by
   obtain ⟨_,_,_,_,rfl,hq1⟩:=onCmp_of h
   obtain ⟨_,rfl,hq2⟩:=on1_of hq1
   obtain ⟨_,rfl,hq3⟩:=on1_of hq2
   replace h:=hq3
   · simp only [Bool.and_eq_true] at h
     obtain ⟨⟨⟨h1,h2⟩,h3⟩,h4⟩:=h
     exact sndT_cmp C.units h1 h4 (sndE a X c _ C h2) (sndE b X c _ C h3) (head_mark (ck_head h3) _)
 | .and a b,X,c,x,C,h=>by
   obtain ⟨o,_,p,rfl,hq1⟩:=onBo_of h
   obtain ⟨y,r,rfl,hq2⟩:=onS_of hq1
   obtain ⟨z,r2,rfl,hq3⟩:=onS_of hq2
   simp only [Bool.and_eq_true] at hq3
   obtain ⟨⟨⟨⟨h0,h1⟩,h2⟩,h3⟩,h4⟩:=hq3
   cases o<;>first | (cases h0;done) | skip
   cases r2 with
   | nil=>exact sndT_and (sndT a X c _ C h1) (pw_and1 (sndT b X c _ C h2))
   | cons w r=>exact sndT_and (sndT a X c _ C h1) (PT.pw (sndT b X c _ C h2))
 | .or a b,X,c,x,C,h=>by
   obtain ⟨o,_,p,rfl,hq1⟩:=onBo_of h
   obtain ⟨y,r,rfl,hq2⟩:=onS_of hq1
   obtain ⟨z,r2,rfl,hq3⟩:=onS_of hq2
   simp only [Bool.and_eq_true] at hq3
   obtain ⟨⟨⟨⟨h0,h1⟩,h2⟩,h3⟩,h4⟩:=hq3
   cases o<;>first | (cases h0;done) | skip
   cases r2 with
   | nil=>exact sndT_or (sndT a X c _ C h1) (pw_or1 (sndT b X c _ C h2))
   | cons w r=>exact sndT_or (sndT a X c _ C h1) (PT.pw (sndT b X c _ C h2))
 | .not a,X,c,x,C,h=>by
   obtain ⟨o,_,_,rfl,hh⟩:=onUn_of h
   simp only [Bool.and_eq_true] at hh
   obtain rfl:=isNot_of hh.1.1
   exact sndT_not (sndT a X c _ C hh.1.2)
 | .call f es,X,c,x,C,h=>sndT_of (es:=es) (f:=cx.call f) (callT C h fun xs h1 h2=>sndEs es X c xs C h1 h2).1 (callT C h fun xs h1 h2=>sndEs es X c xs C h1 h2).2 rfl (fun δ=>by rw [evE]) fun δ=>by rw [evT]
 | .blt f .nil,X,c,x,C,h=>sndT_of (es:=.nil) (f:=bltD f) (blt_any C h (fun e y z=>by cases z) fun xs h1 h2=>sndEs .nil X c xs C h1 h2).1 (blt_any C h (fun e y z=>by cases z) fun xs h1 h2=>sndEs .nil X c xs C h1 h2).2 rfl (fun δ=>by rw [evE]) fun δ=>by rw [evT]
 | .blt f (.cons e .nil),X,c,x,C,h=>sndT_of (es:=.cons e .nil) (f:=bltD f) (blt_any C h (fun e' y z h1=>by cases z;exact sndE e X c y C h1) fun xs h1 h2=>sndEs (.cons e .nil) X c xs C h1 h2).1 (blt_any C h (fun e' y z h1=>by cases z;exact sndE e X c y C h1) fun xs h1 h2=>sndEs (.cons e .nil) X c xs C h1 h2).2 rfl (fun δ=>by rw [evE]) fun δ=>by rw [evT]
 | .blt f (.cons e (.cons e2 es)),X,c,x,C,h=>sndT_of (es:=.cons e (.cons e2 es)) (f:=bltD f) (blt_any C h (fun e' y z=>by cases z) fun xs h1 h2=>sndEs (.cons e (.cons e2 es)) X c xs C h1 h2).1 (blt_any C h (fun e' y z=>by cases z) fun xs h1 h2=>sndEs (.cons e (.cons e2 es)) X c xs C h1 h2).2 rfl (fun δ=>by rw [evE]) fun δ=>by rw [evT]
 | .callv _ _,X,c,x,C,h=>noT fun δ=>by rw [evT]<;>intros<;>simp_all
 | .callF _ _ _,X,c,x,C,h=>noT fun δ=>by rw [evT]<;>intros<;>simp_all
 | .glob _,X,c,x,C,h=>noT fun δ=>by rw [evT]<;>intros<;>simp_all
 | .int _,X,c,x,C,h=>noT fun δ=>by rw [evT]<;>intros<;>simp_all
 | .bl _,X,c,x,C,h=>noT fun δ=>by rw [evT]<;>intros<;>simp_all
 | .non,X,c,x,C,h=>noT fun δ=>by rw [evT]<;>intros<;>simp_all
 | .str _,X,c,x,C,h=>noT fun δ=>by rw [evT]<;>intros<;>simp_all
 | .ssd _,X,c,x,C,h=>noT fun δ=>by rw [evT]<;>intros<;>simp_all
 | .bin ..,X,c,x,C,h=>noT fun δ=>by rw [evT]<;>intros<;>simp_all
 | .ite ..,X,c,x,C,h=>noT fun δ=>by rw [evT]<;>intros<;>simp_all
 | .tup _,X,c,x,C,h=>noT fun δ=>by rw [evT]<;>intros<;>simp_all
 | .lst _,X,c,x,C,h=>noT fun δ=>by rw [evT]<;>intros<;>simp_all
 | .ix ..,X,c,x,C,h=>noT fun δ=>by rw [evT]<;>intros<;>simp_all
 | .sl ..,X,c,x,C,h=>noT fun δ=>by rw [evT]<;>intros<;>simp_all
 | .isdig _,X,c,x,C,h=>noT fun δ=>by rw [evT]<;>intros<;>simp_all
 | .pop _,X,c,x,C,h=>noT fun δ=>by rw [evT]<;>intros<;>simp_all
 | .comp ..,X,c,x,C,h=>noT fun δ=>by rw [evT]<;>intros<;>simp_all
theorem sndEs:∀ (es:Es) (X:Cx) (c:Ck) (xs:List Expr),Cok X c cx k→ckEs c es xs = true→okEs es = true→PA X xs (tEs X.K cx es)
 | .nil,X,c,xs,C,h,_=>by
   obtain ⟨rfl,hq1⟩:=on0_of h
   replace h:=hq1
   · exact snd_nil
 | .cons e es,X,c,xs,C,h,ho=>by
   obtain ⟨_,_,rfl,hq1⟩:=onS_of h
   replace h:=hq1
   · rw [Bool.and_eq_true] at h
     have ho':((!isPk e || npS es) && okEs es) = true:=ho
     rw [Bool.and_eq_true] at ho'
     exact snd_cons ho'.1 (sndE e X c _ C h.1) (sndEs es X c _ C h.2 ho'.2) (head_star (ck_head h.1) _ _)
theorem sndEsL:∀ (es:Es) (X:Cx) (c:Ck) (xs:List Expr) (z:Expr) (tz:TE),Cok X c cx k→ckEs c es xs = true→okEs es = true→PE X z tz→starEach [z] X.env = (false,eval z X.env)::starEach [] X.env→PA X (xs++[z]) (tEsL X.K cx es tz)
 | .nil,X,c,xs,z,tz,C,h,_,hz,hs=>by
   obtain ⟨rfl,hq1⟩:=on0_of h
   replace h:=hq1
   · exact snd_nilL hz hs
 | .cons e es,X,c,xs,z,tz,C,h,ho,hz,hs=>by
   obtain ⟨_,_,rfl,hq1⟩:=onS_of h
   replace h:=hq1
   · rw [Bool.and_eq_true] at h
     have ho':((!isPk e || npS es) && okEs es) = true:=ho
     rw [Bool.and_eq_true] at ho'
     exact snd_consL ho'.1 (sndE e X c _ C h.1) (sndEsL es X c _ z tz C h.2 ho'.2 hz hs) (head_star (ck_head h.1) _ _)
theorem sndO:∀ (o:Eo) (X:Cx) (c:Ck) (l:Option Expr),Cok X c cx k→ckO c o l = true→PO X l (tO X.K cx o)
 | .no,X,c,l,C,h=>by
   obtain rfl:=Option.isNone_iff_eq_none.mp h
   exact snd_o (fun e z=>by cases z) fun _=>rfl
 | .yes e,X,c,l,C,h=>by
   obtain ⟨_,rfl,hq1⟩:=onO_of h
   replace h:=hq1
   · rw [Bool.and_eq_true] at h
     have q:=sndE e X c _ C h.1
     exact snd_o (fun e' z=>by cases z;exact ⟨_,rfl,h.2,q⟩) fun z=>by cases z
theorem sndG:∀ (o:Eo) (X:Cx) (c:Ck) (l:List Expr),Cok X c cx k→ckG c o l = true→PTs X l (tG X.K cx o)
 | .no,X,c,l,C,h=>by
   obtain ⟨rfl,hq1⟩:=on0_of h
   replace h:=hq1
   · intro pins s σ H Q I q
     obtain ⟨G,F,δ,b,δ',ok,ev,post⟩:=q
     simp only [evG] at ev
     cases ev
     exact pts_nil pins s σ H Q I (post H F Step.refl (fun _=>Sim.refl H) ok)
 | .yes e,X,c,l,C,h=>by
   obtain ⟨_,rfl,hq1⟩:=on1_of h
   replace h:=hq1
   · have q:=pts_one (sndT e X c _ C h)
     intro pins s σ H Q I z
     obtain ⟨G,F,δ,b,δ',ok,ev,post⟩:=z
     simp only [evG] at ev
     exact q pins s σ H Q I ⟨G,F,δ,b,δ',ok,ev,post⟩
theorem sndI:∀ (t:It) (X:Cx) (c:Ck) (x tg:Expr),Cok X c cx k→ckI c t x = true→PI X tg x (tI X.K cx t)
 | .rng e,X,c,x,tg,C,h=>by
   obtain ⟨_,_,_,_,rfl,hq1⟩:=onCN_of h
   obtain ⟨_,rfl,hq2⟩:=on1_of hq1
   replace h:=hq2
   · simp only [Bool.and_eq_true] at h
     obtain ⟨⟨⟨h1,h2⟩,h3⟩,h4⟩:=h
     have z:=of_decide_eq_true h1
     subst z
     exact snd_rng h4 (C.global h2).1 (C.blt _ (by decide +kernel)) (sndE e X c _ C h3) (head_star (ck_head h3) _ _)
 | .sq e,X,c,x,tg,C,h=>by
   have h:(ckE c e x && !isPk e) = true:=h
   rw [Bool.and_eq_true] at h
   exact snd_sq h.2 (sndE e X c x C h.1)
end
end
end PP
end
section
namespace PP
open PySem L2 PyProof.Rows
variable [Tbs]
def PostS (K:PySem.W.Frag) (G:Gh) (F:Addr→Prop) (H:Hp) (o:Out) (E:Ends):Prop:=match o with
 | .nx δ'=>∀ σ' H' F',Step G F H F' H'→Ok K G F' σ' H' δ'→E.nx σ' H'
 | .rt d δ'=>∀ v σ' H' F',Step G F H F' H'→Ok K G F' σ' H' δ'→Rel K H' F' d v→E.rt v H'
 | .bk δ'=>∀ σ' H' F',Step G F H F' H'→Ok K G F' σ' H' δ'→E.bk σ' H'
 | .ct δ'=>∀ σ' H' F',Step G F H F' H'→Ok K G F' σ' H' δ'→E.ct σ' H'
 | .ro ds δ'=>∀ a xs σ' H' F',Step G F H F' H'→Ok K G F' σ' H' δ'→F' a→G.free a→H' a = some (.lst xs)→RelL K H' F' ds xs→E.rt (.ref a) H'
def tS (K:PySem.W.Frag) (ev:Loc→Option Out):TS:=fun E σ H=>∃ G F δ o,Ok K G F σ H δ∧ev δ = some o∧PostS K G F H o E
theorem PostS.step {K:PySem.W.Frag} {G:Gh} {F F1:Addr→Prop} {H H1:Hp} {o:Out} {E:Ends} (st:Step G F H F1 H1) (h:PostS K G F H o E):PostS K G F1 H1 o E:=by
 cases o with
 | nx δ=>exact fun σ' H' F' s k=>h σ' H' F' (st.trans s) k
 | rt d δ=>exact fun v σ' H' F' s k r=>h v σ' H' F' (st.trans s) k r
 | bk δ=>exact fun σ' H' F' s k=>h σ' H' F' (st.trans s) k
 | ct δ=>exact fun σ' H' F' s k=>h σ' H' F' (st.trans s) k
 | ro ds δ=>exact fun a xs σ' H' F' s k=>h a xs σ' H' F' (st.trans s) k
section
variable {X:Cx} {c:Ck} {cx:Cl} {k:Nat}
theorem PS.imp {s:Stmt} {t t':TS} (h:PS X s t) (w:∀ E σ H,t' E σ H→t E σ H):PS X s t':=fun pins s σ H E I q=>h pins s σ H E I (w E σ H q)
theorem PSs.imp {s:List Stmt} {t t':TS} (h:PSs X s t) (w:∀ E σ H,t' E σ H→t E σ H):PSs X s t':=fun pins s σ H E I q=>h pins s σ H E I (w E σ H q)
theorem sndS_nil:PSs X [] (tS X.K (evSs cx .nil)):=PSs.imp pss_nil fun E σ H ⟨G,F,δ,o,ok,ev,post⟩=>by
 simp only [evSs] at ev
 cases ev
 exact post σ H F Step.refl ok
theorem sndS_cons {s:S} {ss:Ss} {y:Stmt} {ys:List Stmt} (h1:PS X y (tS X.K (evS cx s))) (h2:PSs X ys (tS X.K (evSs cx ss))):PSs X (y::ys) (tS X.K (evSs cx (.cons s ss))):=PSs.imp (pss_cons h1 h2) fun E σ H ⟨G,F,δ,o,ok,ev,post⟩=>by
 simp only [evSs] at ev
 cases e:evS cx s δ with
 | none=>rw [e] at ev;cases ev
 | some o1 =>
   rw [e] at ev
   cases o1 with
   | nx δ1=>exact ⟨G,F,δ,.nx δ1,ok,e,fun σ' H' F' st ok'=>⟨G,F',δ1,o,ok',ev,post.step st⟩⟩
   | rt d δ1=>cases ev;exact ⟨G,F,δ,_,ok,e,post⟩
   | bk δ1=>cases ev;exact ⟨G,F,δ,_,ok,e,post⟩
   | ct δ1=>cases ev;exact ⟨G,F,δ,_,ok,e,post⟩
   | ro d δ1=>cases ev;exact ⟨G,F,δ,_,ok,e,post⟩
theorem asg_ev {tg:Tg} {e:E} {δ:Loc} {o:Out} (ev:evS cx (.asg tg e) δ = some o):∃ d δ1 δ2,evE cx e δ = some (d,δ1)∧setTg δ1 tg d = some δ2∧o = .nx δ2:=by
 simp only [evS,Option.bind_eq_bind,Option.bind_eq_some_iff] at ev
 obtain ⟨⟨d,δ1⟩,e1,δ2,e2,e3⟩:=ev
 cases e3
 exact ⟨d,δ1,δ2,e1,e2,rfl⟩
theorem asg_of {tg:Tg} {e:E} (n:(!isPk e) = true) {E:Ends} {σ:L2.St} {H:Hp} (h:tS X.K (evS cx (.asg tg e)) E σ H):tAsg (tE X.K cx e) (gTg X.K tg) E σ H:=by
 obtain ⟨G,F,δ,o,ok,ev,post⟩:=h
 obtain ⟨d,δ1,δ2,e1,e2,rfl⟩:=asg_ev ev
 exact ⟨G,F,δ,d,δ1,ok,e1,fun v H1 F1 st sm ok1 r=>tg_read ok1 (rel_of n r) e2 fun σ' ok2 _=>post σ' H1 F1 st ok2⟩
theorem sndS_asg (C:Cok X c cx k) {tg:Tg} {e:E} {t y:Expr} {pos:Pos} (hm:(isNm t || !isTp y) = true) (h:ckTg c tg t = true) (hy:ckE c e y = true) (n:(!isPk e) = true) (nc:(!isComp y) = true) (he:PE X y (tE X.K cx e)):PS X (.Assign [t] y pos) (tS X.K (evS cx (.asg tg e))):=by
 have hh:=ck_head hy
 have nc':isComp y = false:=by simpa using nc
 have hs:swapsWithSole [t] y pos.line X.env = pure false:=head_swaps hh nc' _ _ _
 have hw:swappedStores [t] y X.env = pure none:=by
  rcases tg_shape h with ⟨_,_,rfl⟩ | ⟨_,_,_,rfl⟩
  · cases y<;>first | rfl | (exact absurd hh Bool.false_ne_true)
  · cases y<;>first | rfl | (exact absurd hm Bool.false_ne_true) | (exact absurd hh Bool.false_ne_true)
 have h1:(assignEach [t] X.env).map (·.2) = [assign t X.env]:=by
  rcases tg_shape h with ⟨_,_,rfl⟩ | ⟨_,_,_,rfl⟩<;>rfl
 exact PS.imp (ps_asg he (snd_tg C h) hs hw h1) fun E σ H h=>asg_of n h
def tN (K:PySem.W.Frag) (cx:Cl) (e:E):TE:=fun σ H Q=>∃ G F δ ds δ',Ok K G F σ H δ∧evE cx e δ = some (.lst ds,δ') ∧
 ∀ p xs H1 F1,Step G F H F1 H1→Ok K G F1 σ H1 δ'→H1 p = none→RelL K H1 F1 ds xs→Q (.ref p) (upd H1 p (.lst xs))
theorem own_new {K:PySem.W.Frag} {G:Gh} {F1:Addr→Prop} {σ:L2.St} {H1:Hp} {δ1:Loc} {i:Nat} {p:Addr} {ds:List D} {xs:List V} (ok1:Ok K G F1 σ H1 δ1) (hp:H1 p = none) (rl:RelL K H1 F1 ds xs) (hi:i < δ1.length) :
 Ok K G (fun b=>F1 b∨b = p) (σ.set i (some (.ref p))) (upd H1 p (.lst xs)) (δ1.set i (.own ds))∧Step G F1 H1 (fun b=>F1 b∨b = p) (upd H1 p (.lst xs)):=by
 obtain ⟨o1,o2⟩:=ok1.enter hp xs
 refine ⟨(o1.keep).own hi (.inr rfl) (ok1.free hp) upd_same (RelL.step ok1.fd o2 ds xs rl) fun j es e z=>?_,o2⟩
 obtain ⟨a,ys,e1,_,_,e2,_⟩:=ok1.sl j _ e
 rw [z] at e1
 cases e1
 rw [hp] at e2
 cases e2
theorem sndS_new (C:Cok X c cx k) {i:Nat} {e:E} {t:Str} {y:Expr} {pos p2:Pos} (h:nameTo c i t = true) (hy:ckE c e y = true) (nc:(!isComp y) = true) (he:PE X y (tN X.K cx e)):PS X (.Assign [.Name t p2] y pos) (tS X.K (evS cx (.new i e))):=by
 obtain ⟨n1,n2,n3⟩:=C.to h
 have nc':isComp y = false:=by simpa using nc
 refine PS.imp (ps_set C.nd' n1 n2 he (head_swaps (ck_head hy) nc' _ _ _) n3) fun E σ H ⟨G,F,δ,o,ok,ev,post⟩=>?_
 simp only [evS,Option.bind_eq_bind,Option.bind_eq_some_iff] at ev
 obtain ⟨⟨d,δ1⟩,e1,ev⟩:=ev
 cases d with
 | lst ds =>
   dsimp only at ev
   split at ev
   · cases ev
     refine ⟨G,F,δ,ds,δ1,ok,e1,fun p xs H1 F1 st ok1 hp rl=>?_⟩
     obtain ⟨o1,o2⟩:=own_new ok1 hp rl ‹_›
     exact post _ _ _ (st.trans o2) o1
   · cases ev
 | _=>cases ev
theorem sndN_lst {es:Es} {xs:List Expr} {pos:Pos} (n:noPk es = true) (h:PA X xs (tEs X.K cx es)):PE X (.List xs pos) (tN X.K cx (.lst es)):=by
 refine PE.imp (pe_lst h) fun σ H Q h=>?_
 obtain ⟨G,F,δ,d,δ',ok,ev,post⟩:=h
 simp only [evE,Option.bind_eq_bind,Option.bind_eq_some_iff] at ev
 obtain ⟨⟨ds,δ1⟩,ea,ev⟩:=ev
 split at ev
 · rename_i hz
   cases ev
   refine ⟨G,F,δ,ds,δ1,ok,ea,fun vs H1 F1 st1 sm1 ok1 r1=>?_⟩
   have r:=r1.rl n
   exact ⟨by rw [r.length];exact hz,fun p hp=>post p vs H1 F1 st1 ok1 hp r⟩
 · cases ev
theorem sndN_list (C:Cok X c cx k) {es:Es} {p pos:Pos} {y:Expr} {ys:List Expr} (hg:globIs c (bltNm .toLst) = true) (hA:PA X (y::ys) (tEs X.K cx es)) (h:ckEs c es (y::ys) = true):PE X (.Call (.Name (bltNm .toLst) p) (y::ys) [] pos) (tN X.K cx (.blt .toLst es)):=by
 obtain ⟨g1,g2,g3⟩:=C.global hg
 obtain ⟨e,es',rfl,h1,h2⟩:=ckEs_cons h
 have he:=head_star (ck_head h1) ys X.env
 have hpl:=star_any (env:=X.env) (pos:=pos) h2
 refine PE.imp (pe_callTy call_list_of g1 (C.blt _ (by decide +kernel)) rfl hA g3 g2 he hpl) fun σ H Q h=>?_
 obtain ⟨G,F,δ,ds,δ',ok,ev,post⟩:=h
 simp only [evE] at ev
 obtain ⟨zs,ea,hd⟩:=es_ev ev
 refine ⟨G,F,δ,zs,δ',ok,ea,fun vs H1 F1 st1 sm1 ok1 r1=>?_⟩
 have r:=r1.bl
 change toLstD zs = some (D.lst ds) at hd
 unfold toLstD at hd
 split at hd
 · cases hd
   obtain ⟨v,rfl,r9⟩:=b1 r
   obtain ⟨a,ws,rfl,h1,h2⟩:=r9.lst
   exact ⟨a,ws,rfl,.inl h1.sq,fun l hl=>post l ws H1 F1 st1 ok1 hl h2⟩
 · cases hd
   obtain ⟨v,rfl,r9⟩:=b1 r
   obtain ⟨a,ws,rfl,h1,h2⟩:=r9.tup
   exact ⟨a,ws,rfl,.inr h1,fun l hl=>post l ws H1 F1 st1 ok1 hl h2⟩
 · cases hd
theorem sndN_sl {a:E} {lo hi:Eo} {y:Expr} {l h:Option Expr} {pos p2:Pos} (pc:(!isPk a || (npO lo && npO hi)) = true) (ha:PE X y (tE X.K cx a)) (hl:PO X l (tO X.K cx lo)) (hh:PO X h (tO X.K cx hi)):PE X (.Subscript y (.Slice l h none p2) pos) (tN X.K cx (.sl a lo hi)):=by
 refine PE.imp (pe_slice sl_list ha hl hh) fun σ H Q h=>?_
 obtain ⟨G,F,δ,ds,δ',ok,ev,post⟩:=h
 simp only [evE,Option.bind_eq_bind,Option.bind_eq_some_iff] at ev
 obtain ⟨⟨x,δ1⟩,ea,⟨l',δ2⟩,eb,⟨h',δ3⟩,ec,d',hd,e⟩:=ev
 cases e
 dsimp only at eb ec hd post
 refine ⟨G,F,δ,x,δ1,ok,ea,fun v H1 F1 st1 sm1 ok1 r1=>⟨G,F1,δ1,l',δ2,ok1,eb,fun H2 F2 st2 sm2 ok2=>⟨G,F2,δ2,h',δ3,ok2,ec,fun H3 F3 st3 sm3 ok3=>?_⟩⟩⟩
 have st:=st2.trans st3
 have rb:RelB X.K H3 F3 x v:=by
  refine (RelM.step ok1.fd st (fun z=>?_) r1).b
  rw [z] at pc
  have pc':(npO lo && npO hi) = true:=by simpa using pc
  rw [Bool.and_eq_true] at pc'
  exact (sm2 pc'.1).trans (sm3 pc'.2)
 unfold slD at hd
 split at hd
 · cases hd
   obtain ⟨p,xs,e1,h1,h2⟩:=rb.lst
   exact ⟨p,xs,e1,h1.sq,fun q hq=>post q _ H3 F3 (st1.trans st) ok3 hq (h2.cut l' h')⟩
 · split at hd
   · cases hd
   · cases hd
 · cases hd
end
end PP
end
section
namespace PP
open PySem L2 PyProof.Rows
variable [Tbs]
section
variable {X:Cx} {c:Ck} {cx:Cl} {k:Nat}
theorem sndS_aug (C:Cok X c cx k) {i:Nat} {op:Op} {o:Operator} {e:E} {t:Str} {y:Expr} {pos p2:Pos} (h:nameTo c i t = true) (ho:opIs op o = true) (n:(!isPk e) = true) (he:PE X y (tE X.K cx e)):PS X (.AugAssign (.Name t p2) o y pos) (tS X.K (evS cx (.aug i op e))):=by
 obtain ⟨n1,n2,n3⟩:=C.to h
 have inv:∀ {δ:Loc} {out:Out},evS cx (.aug i op e) δ = some out→∃ a b δ1,δ[i]? = some (.val (.int a))∧evE cx e δ = some (.int b,δ1)∧((op = .add∧out = .nx (δ1.set i (.val (.int (a+b)))))∨(op = .sub∧out = .nx (δ1.set i (.val (.int (a - b)))))):=by
  intro δ out ev
  simp only [evS] at ev
  cases q:δ[i]? with
  | none=>rw [q] at ev;cases ev
  | some s =>
    rw [q] at ev
    cases s with
    | no=>cases ev
    | fnc _ _=>cases ev
    | own _=>cases ev
    | val x =>
      simp only [Option.bind_eq_bind,Option.bind_eq_some_iff] at ev
      obtain ⟨⟨d,δ1⟩,e1,ev⟩:=ev
      dsimp only at ev
      split at ev
      · cases ev;exact ⟨_,_,δ1,rfl,e1,.inl ⟨rfl,rfl⟩⟩
      · cases ev;exact ⟨_,_,δ1,rfl,e1,.inr ⟨rfl,rfl⟩⟩
      · cases ev
 cases op with
 | add =>
   cases o<;>first | (exact absurd ho Bool.false_ne_true) | skip
   refine PS.imp (ps_aug C.nd' n1 n2 he ip_add n3) fun E σ H ⟨G,F,δ,out,ok,ev,post⟩=>?_
   obtain ⟨a,b,δ1,e1,e2,⟨_,rfl⟩ | ⟨z,_⟩⟩:=inv ev
   · obtain ⟨v,ev,r⟩:=ok.sl i _ e1
     unfold Rel at r
     subst r
     refine ⟨_,ev,G,F,δ,_,δ1,ok,e2,fun u H1 F1 st sm ok1 r1=>?_⟩
     have:=r1.b.int
     subst this
     exact ⟨a,b,rfl,rfl,post _ H1 F1 st (ok1.set (by rw [ok1.len,← ok.len];exact (List.getElem?_eq_some_iff.mp e1).1) (rel_int _))⟩
   · cases z
 | sub =>
   cases o<;>first | (exact absurd ho Bool.false_ne_true) | skip
   refine PS.imp (ps_aug C.nd' n1 n2 he ip_sub n3) fun E σ H ⟨G,F,δ,out,ok,ev,post⟩=>?_
   obtain ⟨a,b,δ1,e1,e2,⟨z,_⟩ | ⟨_,rfl⟩⟩:=inv ev
   · cases z
   · obtain ⟨v,ev,r⟩:=ok.sl i _ e1
     unfold Rel at r
     subst r
     refine ⟨_,ev,G,F,δ,_,δ1,ok,e2,fun u H1 F1 st sm ok1 r1=>?_⟩
     have:=r1.b.int
     subst this
     exact ⟨a,b,rfl,rfl,post _ H1 F1 st (ok1.set (by rw [ok1.len,← ok.len];exact (List.getElem?_eq_some_iff.mp e1).1) (rel_int _))⟩
 | _ =>
   refine PS.imp ps_never fun E σ H ⟨G,F,δ,out,ok,ev,post⟩=>?_
   obtain ⟨a,b,δ1,e1,e2,⟨z,_⟩ | ⟨z,_⟩⟩:=inv ev
   · cases z
   · cases z
theorem sndS_ret {e:E} {y:Expr} {pos:Pos} (n:(!isPk e) = true) (he:PE X y (tE X.K cx e)):PS X (.Return (some y) pos) (tS X.K (evS cx (.ret e))):=PS.imp (ps_ret he) fun E σ H ⟨G,F,δ,out,ok,ev,post⟩=>by
 simp only [evS,Option.bind_eq_bind,Option.bind_eq_some_iff] at ev
 obtain ⟨⟨d,δ1⟩,e1,ev⟩:=ev
 cases ev
 exact ⟨G,F,δ,d,δ1,ok,e1,fun v H1 F1 st sm ok1 r=>post v σ H1 F1 st ok1 (rel_of n r)⟩
theorem sndS_retN {pos:Pos}:PS X (.Return none pos) (tS X.K (evS cx .retN)):=PS.imp ps_retN fun E σ H ⟨G,F,δ,out,ok,ev,post⟩=>by
 simp only [evS] at ev
 cases ev
 exact post .non σ H F Step.refl ok rel_non
theorem sndS_ifs {t:E} {a b:Ss} {y:Expr} {ya yb:List Stmt} {pos:Pos} (ht:PT X y (tT X.K cx t)) (ha:PSs X ya (tS X.K (evSs cx a))) (hb:PSs X yb (tS X.K (evSs cx b))):PS X (.If y ya yb pos) (tS X.K (evS cx (.ifs t a b))):=PS.imp (ps_if ht ha hb) fun E σ H ⟨G,F,δ,out,ok,ev,post⟩=>by
 simp only [evS,Option.bind_eq_bind,Option.bind_eq_some_iff] at ev
 obtain ⟨⟨q,δ1⟩,e1,ev⟩:=ev
 refine ⟨G,F,δ,q,δ1,ok,e1,fun H1 F1 st sm ok1=>?_⟩
 cases q with
 | true=>exact iteT ⟨G,F1,δ1,out,ok1,ev,post.step st⟩
 | false=>exact iteF ⟨G,F1,δ1,out,ok1,ev,post.step st⟩
theorem sndS_pass {pos:Pos}:PS X (.Pass pos) (tS X.K (evS cx .pass)):=PS.imp ps_pass fun E σ H ⟨G,F,δ,out,ok,ev,post⟩=>by
 simp only [evS] at ev
 cases ev
 exact post σ H F Step.refl ok
theorem sndS_brk {pos:Pos}:PS X (.Break pos) (tS X.K (evS cx .brk)):=PS.imp ps_break fun E σ H ⟨G,F,δ,out,ok,ev,post⟩=>by
 simp only [evS] at ev
 cases ev
 exact post σ H F Step.refl ok
theorem sndS_cont {pos:Pos}:PS X (.Continue pos) (tS X.K (evS cx .cont)):=PS.imp ps_continue fun E σ H ⟨G,F,δ,out,ok,ev,post⟩=>by
 simp only [evS] at ev
 cases ev
 exact post σ H F Step.refl ok
theorem sndS_for (C:Cok X c cx k) {tg:Tg} {src:It} {body:Ss} {t it:Expr} {ys:List Stmt} {pos:Pos} (htg:ckTg c tg t = true) (hI:PI X t it (tI X.K cx src)) (hset:∀ v,foldedSetIterable it X.env v = pure v) (hb:PSs X ys (tS X.K (evSs cx body))):PS X (.For t it ys [] pos) (tS X.K (evS cx (.for_ tg src body))):=by
 have hp:PassesOwn (model X.prog X.w) X.A X.env X.xe:=by rw [C.xe];exact PassesOwn.never
 refine PS.imp (ps_for hp C.calm hI (snd_tg C htg) hb hset) fun E σ H ⟨G,F,δ,out,ok,ev,post⟩=>?_
 simp only [evS,Option.bind_eq_bind,Option.bind_eq_some_iff] at ev
 obtain ⟨⟨ds,δ1⟩,e1,ev⟩:=ev
 dsimp only at ev
 generalize ef:(fun (x:D) (δ0:Loc)=>match setTg δ0 tg x with | some δ2=>evSs cx body δ2 | none=>none) = f at ev
 refine ⟨G,F,δ,ds,δ1,ok,e1,fun J H1 F1 st sm ok1 wk=>?_⟩
 refine ⟨fun i m σ' H'=>∃ F' δ',m = ds.length - i∧i≤ds.length∧Step G F1 H1 F' H'∧Ok X.K G F' σ' H' δ'∧forL f (ds.drop i) δ' = some out,⟨_,F1,δ1,rfl,Nat.zero_le _,Step.refl,ok1,ev⟩,?_⟩
 rintro i m σ' H' ⟨F',δ',rfl,hi,st',ok',ev'⟩
 by_cases hlt:i < ds.length
 · right
   obtain ⟨d,hd⟩:∃ d,ds[i]? = some d:=⟨ds[i],by simp [hlt]⟩
   obtain ⟨go,yl⟩:=(wk _ F' H' st' ok'.fd i).1 d hd
   refine ⟨go,?_⟩
   have edr:ds.drop i = d::ds.drop (i+1):=by
    rw [List.drop_eq_getElem_cons hlt]
    congr 1
    rw [List.getElem?_eq_getElem hlt] at hd
    exact Option.some.inj hd
   rw [edr] at ev'
   unfold forL at ev'
   refine ⟨fun σ2 H2=>∃ m',m' < ds.length - i∧∃ F2 δ2,m' = ds.length - (i+1)∧i+1≤ds.length∧Step G F1 H1 F2 H2∧Ok X.K G F2 σ2 H2 δ2∧forL f (ds.drop (i+1)) δ2 = some out,fun σ2 H2 z=>z,fun x H3 hy=>?_⟩
   obtain ⟨e3,rx⟩:=yl x H3 hy
   subst e3
   cases hf:f d δ' with
   | none=>rw [hf] at ev';cases ev'
   | some o1 =>
     have hf':=hf
     rw [← ef] at hf'
     dsimp only at hf'
     cases hs:setTg δ' tg d with
     | none=>rw [hs] at hf';cases hf'
     | some δ2 =>
       rw [hs] at hf'
       refine tg_read ok' rx hs fun σ2 ok2 _=>⟨G,F',δ2,o1,ok2,hf',?_⟩
       rw [hf] at ev'
       cases o1 with
       | nx δ3=>exact fun σ3 H4 F4 s4 k4=>⟨_,by omega,F4,δ3,rfl,hlt,st'.trans s4,k4,ev'⟩
       | ct δ3=>exact fun σ3 H4 F4 s4 k4=>⟨_,by omega,F4,δ3,rfl,hlt,st'.trans s4,k4,ev'⟩
       | bk δ3 =>
         cases ev'
         exact fun σ3 H4 F4 s4 k4=>post σ3 H4 F4 ((st.trans st').trans s4) k4
       | rt d3 δ3 =>
         cases ev'
         exact fun v σ3 H4 F4 s4 k4 r4=>post v σ3 H4 F4 ((st.trans st').trans s4) k4 r4
       | ro d3 δ3 =>
         cases ev'
         exact fun a xs σ3 H4 F4 s4 k4=>post a xs σ3 H4 F4 ((st.trans st').trans s4) k4
 · left
   have hi':i = ds.length:=by omega
   subst hi'
   refine ⟨(wk _ F' H' st' ok'.fd ds.length).2 rfl,?_⟩
   rw [List.drop_length] at ev'
   cases ev'
   exact post σ' H' F' (st.trans st') ok'
theorem sndS_while (C:Cok X c cx k) {t:E} {body:Ss} {y:Expr} {ys:List Stmt} {pos:Pos} (ht:PT X y (tT X.K cx t)) (hb:PSs X ys (tS X.K (evSs cx body))):PS X (.While y ys [] pos) (tS X.K (evS cx (.while_ t body))):=by
 have hp:PassesOwn (model X.prog X.w) X.A X.env X.xe:=by rw [C.xe];exact PassesOwn.never
 refine PS.imp (ps_while hp ht hb) fun E σ H ⟨G,F,δ,out,ok,ev,post⟩=>?_
 simp only [evS] at ev
 refine ⟨fun m σ' H'=>∃ F' δ',Step G F H F' H'∧Ok X.K G F' σ' H' δ'∧whileL (fun δ0=>evT cx t δ0) (fun δ0=>evSs cx body δ0) m δ' = some out,⟨1000,F,δ,Step.refl,ok,ev⟩,?_⟩
 rintro m σ' H' ⟨F',δ',st',ok',ev'⟩
 cases m with
 | zero=>cases ev'
 | succ m =>
   unfold whileL at ev'
   cases ec:evT cx t δ' with
   | none=>rw [ec] at ev';cases ev'
   | some q =>
     obtain ⟨b,δ1⟩:=q
     rw [ec] at ev'
     refine ⟨G,F',δ',b,δ1,ok',ec,fun H1 F1 st1 sm1 ok1=>?_⟩
     have sA:=st'.trans st1
     cases b with
     | true =>
       refine iteT ?_
       dsimp only at ev'
       refine ⟨fun σ2 H2=>∃ m',m' < m+1∧∃ F2 δ2,Step G F H F2 H2∧Ok X.K G F2 σ2 H2 δ2∧whileL (fun δ0=>evT cx t δ0) (fun δ0=>evSs cx body δ0) m' δ2 = some out,fun σ2 H2 z=>z,?_⟩
       cases hf:evSs cx body δ1 with
       | none=>rw [hf] at ev';cases ev'
       | some o1 =>
         rw [hf] at ev'
         refine ⟨G,F1,δ1,o1,ok1,hf,?_⟩
         cases o1 with
         | nx δ3=>exact fun σ3 H4 F4 s4 k4=>⟨m,by omega,F4,δ3,sA.trans s4,k4,ev'⟩
         | ct δ3=>exact fun σ3 H4 F4 s4 k4=>⟨m,by omega,F4,δ3,sA.trans s4,k4,ev'⟩
         | bk δ3 =>
           cases ev'
           exact fun σ3 H4 F4 s4 k4=>post σ3 H4 F4 (sA.trans s4) k4
         | rt d3 δ3 =>
           cases ev'
           exact fun v σ3 H4 F4 s4 k4 r4=>post v σ3 H4 F4 (sA.trans s4) k4 r4
         | ro d3 δ3 =>
           cases ev'
           exact fun a xs σ3 H4 F4 s4 k4=>post a xs σ3 H4 F4 (sA.trans s4) k4
     | false =>
       refine iteF ?_
       cases ev'
       exact post σ' H1 F1 sA ok1
end
end PP
end
section
namespace PP
open PySem L2 PyProof.Rows
variable [Tbs]
section
variable {X:Cx} {c:Ck} {cx:Cl} {k:Nat}
theorem few1 {c:Ck} {e:E} {z:Expr} {env:Env} {cp:Pos} (h:ckE c e z = true):((backTo cp (starEach [z] env)).all (fun x=>!x.1) && (backToKw cp (keywordEach [] env)).all (fun x=>x.1.isSome)
 && decide (([z]:List Expr).length+([]:List Keyword).length+(if ([]:List Keyword).isEmpty then 0 else 1) < 30)) = true:=by
 rw [head_star (ck_head h)]
 rfl
theorem sndS_append {i:Nat} {e:E} {x:Str} {z:Expr} {p1 p2 ap cp:Pos} (C:Cok X c cx k) (hx:nameIs c i x = true) (hl:ap.endLine = cp.line) (hz:ckE c e z = true) (n:(!isPk e) = true) (he:PE X z (tE X.K cx e)) :
 PS X (.Expr (.Call (.Attribute (.Name x p1) "append" ap) [z] [] cp) p2) (tS X.K (evS cx (.append i e))):=by
 obtain ⟨n1,n2,n3,n4⟩:=C.name hx
 have hs:=head_star (ck_head hz) [] X.env
 have hA:PA X [z] (tEs X.K cx (.cons e .nil)):=snd_cons (by simp [npS]) he snd_nil hs
 refine PS.imp (ps_expr (pe_bm PySem.F.plainAttrs_list PySem.F.slot_list_append PySem.F.type_list_append mt_append (pe_var n1 n2 n3 n4) hA rfl (few1 hz) (by simpa using hl) hs rfl)) fun E σ H ⟨G,F,δ,out,ok,ev,post⟩=>?_
 simp only [evS] at ev
 cases q:δ[i]? with
 | none=>rw [q] at ev;cases ev
 | some s =>
   rw [q] at ev
   cases s with
   | no=>cases ev
   | fnc _ _=>cases ev
   | val _=>cases ev
   | own ds0 =>
     simp only [Option.bind_eq_bind,Option.bind_eq_some_iff] at ev
     obtain ⟨⟨d,δ1⟩,e1,ev⟩:=ev
     dsimp only at ev
     obtain ⟨a,xs0,ea,f1,f2,f3,f4⟩:=ok.sl i _ q
     cases q1:δ1[i]? with
     | none=>rw [q1] at ev;cases ev
     | some s1 =>
       rw [q1] at ev
       cases s1 with
       | no=>cases ev
       | fnc _ _=>cases ev
       | val _=>cases ev
       | own ds =>
         dsimp only at ev
         split at ev
         · rename_i hz'
           cases ev
           refine ⟨.ref a,ea,.inl ⟨rfl,xs0,.inl (.inl f3)⟩,G,F,δ,[d],δ1,ok,by simp [evEs,e1],fun vs H1 F1 st sm ok1 r=>?_⟩
           obtain ⟨d',ds',v,vs',ed,rfl,rv,rn⟩:=r
           cases ed
           obtain ⟨_,rfl⟩:=rn
           have rv':=rel_of n rv
           obtain ⟨a',xs,ea',g1,g2,g3,g4⟩:=ok1.sl i _ q1
           rw [ea] at ea'
           cases ea'
           obtain ⟨o1,o2⟩:=ok1.write q1 ea (g4.append (RelL.one rv'))
           exact ⟨a,xs,v,rfl,rfl,g3,by rw [g4.length];exact hz',post σ _ F1 (st.trans o2) o1⟩
         · cases ev
def rExtR (X:Cx):V→List V→Hp→VK→Prop:=fun x vs H Q=>∃ l b xs zs,x = .ref l∧vs = [.ref b]∧H l = some (.lst xs)∧LsB X.K H b zs∧xs.length+zs.length≤sizeLine∧Q .non (upd H l (.lst (xs++zs)))
theorem mt_extR:MtM X "list.extend" (rExtR X):=by
 intro pins s σ H x vs v us Q I rx rv h
 obtain ⟨l,b,xs,zs,rfl,rfl,hH,hB,hz,q⟩:=h
 cases rx
 obtain ⟨u,rfl,ru⟩:=rv.one
 cases ru
 obtain ⟨z,its,n,r,hl,e⟩:=I.lstM hH
 obtain ⟨its2,n2,r2,e2,z2⟩:=hB.obj I
 have hl2:=r2.length
 have s1:its.toArray.size = xs.length:=by rw [List.size_toArray];omega
 have s2:its2.toArray.size = zs.length:=by rw [List.size_toArray];omega
 refine call_meets F.slot_list_extend ⟨_,e,rfl⟩ F.entry_list_extend (F.args_list_extend_2 _ _) (AutoSeq1.list_extend_list_list_0 l its.toArray n b its2.toArray n2 ?_ (by rw [s1];omega) (by omega)) ⟨e,e2,?_⟩
 · rw [s1,s2,notLongL hz,Bool.and_false]
   exact Bool.false_ne_true
 · refine ⟨.non,_,I.lset (its':=its++its2) hH e (by simp) (r.append r2) (by rw [List.length_append];omega),rfl,q⟩
theorem sndS_extend {i:Nat} {e:E} {x:Str} {z:Expr} {p1 p2 ap cp:Pos} (C:Cok X c cx k) (hx:nameIs c i x = true) (hl:ap.endLine = cp.line) (hz:ckE c e z = true) (n:(!isPk e) = true) (he:PE X z (tE X.K cx e)) :
 PS X (.Expr (.Call (.Attribute (.Name x p1) "extend" ap) [z] [] cp) p2) (tS X.K (evS cx (.extend i e))):=by
 obtain ⟨n1,n2,n3,n4⟩:=C.name hx
 have hs:=head_star (ck_head hz) [] X.env
 have hA:PA X [z] (tEs X.K cx (.cons e .nil)):=snd_cons (by simp [npS]) he snd_nil hs
 refine PS.imp (ps_expr (pe_bm PySem.F.plainAttrs_list PySem.F.slot_list_extend PySem.F.type_list_extend mt_extR (pe_var n1 n2 n3 n4) hA rfl (few1 hz) (by simpa using hl) hs rfl)) fun E σ H ⟨G,F,δ,out,ok,ev,post⟩=>?_
 simp only [evS] at ev
 cases q:δ[i]? with
 | none=>rw [q] at ev;cases ev
 | some s =>
   rw [q] at ev
   cases s with
   | no=>cases ev
   | fnc _ _=>cases ev
   | val _=>cases ev
   | own ds0 =>
     simp only [Option.bind_eq_bind,Option.bind_eq_some_iff] at ev
     obtain ⟨⟨d,δ1⟩,e1,ev⟩:=ev
     obtain ⟨a,xs0,ea,f1,f2,f3,f4⟩:=ok.sl i _ q
     cases d with
     | lst ys =>
       dsimp only at ev
       cases q1:δ1[i]? with
       | none=>rw [q1] at ev;cases ev
       | some s1 =>
         rw [q1] at ev
         cases s1 with
         | no=>cases ev
         | fnc _ _=>cases ev
         | val _=>cases ev
         | own ds =>
           dsimp only at ev
           split at ev
           · rename_i hz'
             cases ev
             refine ⟨.ref a,ea,.inl ⟨rfl,xs0,.inl (.inl f3)⟩,G,F,δ,[.lst ys],δ1,ok,by simp [evEs,e1],fun vs H1 F1 st sm ok1 r=>?_⟩
             obtain ⟨d',ds',v,vs',ed,rfl,rv,rn⟩:=r
             cases ed
             obtain ⟨_,rfl⟩:=rn
             have rv':=rel_of n rv
             unfold Rel at rv'
             obtain ⟨b,zs,rfl,rb,rl⟩:=rv'
             obtain ⟨a',xs,ea',g1,g2,g3,g4⟩:=ok1.sl i _ q1
             rw [ea] at ea'
             cases ea'
             obtain ⟨o1,o2⟩:=ok1.write q1 ea (g4.append rl)
             exact ⟨a,b,xs,zs,rfl,rfl,g3,rb.b,by rw [g4.length,rl.length];exact hz',post σ _ F1 (st.trans o2) o1⟩
           · cases ev
     | _=>cases ev
theorem sndS_setix {i:Nat} {j e:E} {x:Str} {y z:Expr} {p1 p2 pos:Pos} (C:Cok X c cx k) (hx:nameIs c i x = true) (hy:ckE c e y = true) (n:(!isPk e) = true) (nc:(!isComp y) = true) (hz:ckE c j z = true) (nj:(!isPk j) = true) (he:PE X y (tE X.K cx e)) (hj:PE X z (tE X.K cx j)) :
 PS X (.Assign [.Subscript (.Name x p1) z p2] y pos) (tS X.K (evS cx (.setix i j e))):=by
 obtain ⟨n1,n2,n3,n4⟩:=C.name hx
 have nc':isComp y = false:=by simpa using nc
 have hh:=ck_head hz
 have hh2:=ck_head hy
 have ha:∀ v,assign (.Subscript (.Name x p1) z p2) X.env v = (do
  let ov ← holding [v] (eval (.Name x p1) X.env)
  let iv ← holding [v,ov] (eval z X.env)
  standAt p2
  holding [v,ov,iv] (setItem ov iv v)
  release [v,ov,iv] []):=by
  intro v
  cases z<;>first | rfl | (exact absurd hh Bool.false_ne_true)
 have hsw:swapsWithSole [.Subscript (.Name x p1) z p2] y pos.line X.env = pure false:=by
  cases y<;>first | rfl | (exact absurd hh2 Bool.false_ne_true) | (exact absurd nc'.symm Bool.false_ne_true)
 have hw:swappedStores [.Subscript (.Name x p1) z p2] y X.env = pure none:=by
  cases y<;>first | rfl | (exact absurd hh2 Bool.false_ne_true)
 refine PS.imp (ps_asg he (pg_sub (pe_var n1 n2 n3 n4) hj set_list ha) hsw hw rfl) fun E σ H ⟨G,F,δ,out,ok,ev,post⟩=>?_
 simp only [evS,Option.bind_eq_bind,Option.bind_eq_some_iff] at ev
 obtain ⟨⟨d,δ1⟩,e1,ev⟩:=ev
 dsimp only at ev
 refine ⟨G,F,δ,d,δ1,ok,e1,fun v H1 F1 st1 sm1 ok1 r1=>?_⟩
 cases q1:δ1[i]? with
 | none=>rw [q1] at ev;cases ev
 | some s1 =>
   rw [q1] at ev
   cases s1 with
   | no=>cases ev
   | fnc _ _=>cases ev
   | val _=>cases ev
   | own ds0 =>
     obtain ⟨a,xs0,ea,f1,f2,f3,f4⟩:=ok1.sl i _ q1
     simp only [Option.bind_eq_some_iff] at ev
     obtain ⟨⟨dj,δ2⟩,e2,ev⟩:=ev
     refine ⟨.ref a,ea,G,F1,δ1,dj,δ2,ok1,e2,fun w H2 F2 st2 sm2 ok2 r2=>?_⟩
     cases dj with
     | int m =>
       have:=r2.b.int
       subst this
       dsimp only at ev
       cases q2:δ2[i]? with
       | none=>rw [q2] at ev;cases ev
       | some s2 =>
         rw [q2] at ev
         cases s2 with
         | no=>cases ev
         | fnc _ _=>cases ev
         | val _=>cases ev
         | own ds =>
           dsimp only at ev
           obtain ⟨a',xs,ea',g1,g2,g3,g4⟩:=ok2.sl i _ q2
           rw [ea] at ea'
           cases ea'
           cases q3:ixN ds.length m with
           | none=>rw [q3] at ev;cases ev
           | some mm =>
             rw [q3] at ev
             cases ev
             have rv:=Rel.step ok1.fd st2 d v (rel_of n r1)
             obtain ⟨o1,o2⟩:=ok2.write q2 ea (RelL.set rv mm g4)
             exact ⟨a,xs,m,mm,rfl,rfl,g3,by rw [g4.length];exact q3,post σ _ F2 ((st1.trans st2).trans o2) o1⟩
     | _=>cases ev
theorem sndN {e:E} {y:Expr} (hm:newOk e = true) (C:Cok X c cx k) (h:ckE c e y = true):PE X y (tN X.K cx e):=by
 unfold newOk at hm
 split at hm
 · obtain ⟨_,_,rfl,hh⟩:=onLst_of h
   rw [Bool.and_eq_true] at hh
   exact sndN_lst hh.2 (sndEs _ X c _ C hh.1 (noPk_ok hh.2))
 · rename_i es
   obtain ⟨_,_,xs,_,rfl,hh⟩:=onCN_of h
   simp only [Bool.and_eq_true] at hh
   obtain ⟨⟨h1,h2⟩,h3⟩:=hh
   have e1:=of_decide_eq_true h1
   subst e1
   have h3:(!xs.isEmpty && ckEs c es xs && okEs es) = true:=h3
   simp only [Bool.and_eq_true] at h3
   cases xs with
   | nil=>simp at h3
   | cons y ys=>exact sndN_list C h2 (sndEs _ X c _ C h3.1.2 h3.2) h3.1.2
 · obtain ⟨_,_,_,rfl,hh⟩:=onSub_of h
   obtain ⟨_,_,o,_,rfl,h9⟩:=onSl_of hh
   simp only [Bool.and_eq_true] at h9
   obtain ⟨h0,⟨⟨h1,h2⟩,h3⟩,h4⟩:=h9
   obtain rfl:=Option.isNone_iff_eq_none.mp h0
   exact sndN_sl (by simpa using h4) (sndE _ X c _ C h1) (sndO _ X c _ C h2) (sndO _ X c _ C h3)
 · cases hm
end
section
variable {X:Cx} {c:Ck} {cx:Cl} {k:Nat}
theorem sndS_cmp (C:Cok X c cx k) (hS:X.env.scope = c.sc) (hB:X.env.blockKind = .function) {own:Bool} {i kk:Nat} {tg:Tg} {src:It} {ifs:Eo} {elt:E} {t:Str} {tp p sp:Pos} {ex:Expr} {gs:List Comprehension} {sc:Scope}
 (hn:nameTo c i t = true) (h:ckE c (.comp kk tg src ifs elt) (.ListComp ex gs sc p) = true) (hl:c.sc.names.lookup t = some .local) (hp:tp.line = p.line) (hz:(!(sc.names.any fun (n,k)=>n == t && (k == .local || k == .cell))) = true) :
 PS X (.Assign [.Name t tp] (.ListComp ex gs sc p) sp) (tS X.K (evS cx (.cmp own i (.comp kk tg src ifs elt)))):=by
 obtain ⟨n1,n2,n3⟩:=C.to hn
 obtain ⟨_,_,_,_,e,hh⟩:=onLC_of h
 cases e
 obtain ⟨_,rfl,h9⟩:=on1_of hh
 obtain ⟨tgt,it,il,rfl,h10⟩:=onG_of h9
 replace h:=h10
 · split at h
   · rename_i ts ht
     simp only [Bool.and_eq_true] at h
     obtain ⟨⟨⟨⟨⟨⟨⟨⟨h1,h2⟩,h3⟩,h4⟩,h5⟩,h6⟩,h7⟩,h8⟩,h9⟩:=h
     obtain ⟨nd,hvis⟩:=names_of' h4
     have hk:=tgNames_len (tg:=tg) (c:=c) (of_decide_eq_true h1)
     have hsw:swapsWith (.ListComp ex [⟨tgt,it,il,0⟩] sc p) (some (.Name t tp)) sp.line X.env = pure true:=by
      have e1:X.env.kindOf t = some .local:=by
       show X.env.scope.names.lookup t = some .local
       rw [hS];exact hl
      show (pure (X.env.blockKind == .function && X.env.kindOf t == some .local && tp.line == p.line && !(sc.names.any fun (n,k)=>n == t && (k == .local || k == .cell))):Sem Bool) = pure true
      rw [hB,e1,hp,hz]
      congr 1
      simp
     intro pins s σ H E I hq
     refine ps_lcomp (Nc:=maskN ts c.N++ts) (te:=tE X.K cx elt) (tt:=tG X.K cx ifs) (g:=gTg X.K tg) C.xe C.calm (scope_of C h3) (fun i x hi=>by rw [C.hN] at hi ⊢;exact hvis i x hi) (by rw [C.hN,hk];omega) (sndI src X c _ _ C h6)
      (fun cl Ca s H fp=>snd_tg (cok_block C h3 nd cl Ca s H fp) h5) (fun cl Ca s H fp=>sndG ifs _ _ _ (cok_block C h3 nd cl Ca s H fp) h7) (fun cl Ca s H fp=>sndE elt _ _ _ (cok_block C h3 nd cl Ca s H fp) h8) (fun v=>ckI_set h6 _ v)
      C.nd' n1 n2 n3 hsw pins s σ H E I ?_
     obtain ⟨G,F,δ,o,ok,ev,post⟩:=hq
     simp only [evS,Option.bind_eq_bind,Option.bind_eq_some_iff] at ev
     obtain ⟨⟨d,δ1⟩,e1,ev⟩:=ev
     cases d with
     | lst ds =>
       dsimp only at ev
       split at ev
       · rename_i hi
         cases ev
         refine comp_any C I h9 hk h2 ok e1 fun p ys xs H1 F1 H2 F2 e st1 st2 hp hg ok2 eD rl sm=>?_
         cases e
         show E.nx (σ.set i (some (.ref p))) H2
         cases own with
         | true =>
           refine post _ H2 F2 (st1.trans st2) ((ok2.keep).own hi (ok2.rf p (.inr rfl)) hg eD rl fun j es ej z=>?_)
           obtain ⟨a,zs,e2,_,g2,_,_⟩:=ok2.sl j _ ej
           rw [z] at e2
           cases e2
           exact g2.2 (.inr rfl)
         | false =>
           have st':Step G F1 H1 (fun b=>F2 b∧b≠p) H2:=⟨st2.keep,fun b z=>st2.grow b z.1,fun b o r f e=>by
            obtain ⟨a1,a2⟩:=st2.res b o r f e
            exact ⟨⟨a1,fun w=>by rw [w,hp] at e;cases e⟩,a2⟩,st2.tb⟩
           refine post _ H2 _ (st1.trans st') ((ok2.leave hg).set hi ?_)
           unfold Rel
           exact ⟨p,xs,rfl,.inl ⟨.inl eD,fun z=>z.2 rfl⟩,RelL.less ok2.fd (fun b z=>z.1) rl⟩
       · cases ev
     | _=>cases ev
   · cases h
end
section
variable {X:Cx} {c:Ck} {cx:Cl} {k:Nat} (C:Cok X c cx k) (hS:X.env.scope = c.sc) (hB:X.env.blockKind = .function)
include C hS hB
mutual
theorem sndS:∀ (s:S) (x:Stmt),ckS c s x = true→PS X x (tS X.K (evS cx s))
 | .asg tg e,x,h=>by
   obtain ⟨_,_,_,rfl,hq1⟩:=onAsg_of h
   obtain ⟨_,rfl,hq2⟩:=on1_of hq1
   replace h:=hq2
   · simp only [Bool.and_eq_true] at h
     obtain ⟨⟨⟨⟨h1,h2⟩,h3⟩,h4⟩,h5⟩:=h
     exact sndS_asg C h5 h1 h2 h3 h4 (sndE e X c _ C h2)
 | .new i e,x,h=>by
   obtain ⟨_,_,_,rfl,hq1⟩:=onAsg_of h
   obtain ⟨_,rfl,hq2⟩:=on1_of hq1
   obtain ⟨_,_,rfl,hq3⟩:=onName_of hq2
   replace h:=hq3
   · simp only [Bool.and_eq_true] at h
     obtain ⟨⟨⟨h1,h2⟩,h3⟩,h4⟩:=h
     exact sndS_new C h1 h2 h3 (sndN h4 C h2)
 | .cmp own i e,x,h=>by
   have h:(isCmpE e && _) = true:=h
   rw [Bool.and_eq_true] at h
   obtain ⟨h0,h⟩:=h
   cases e<;>first | (cases h0;done) | skip
   obtain ⟨_,_,_,rfl,hh⟩:=onAsg_of h
   obtain ⟨_,rfl,h2⟩:=on1_of hh
   obtain ⟨_,_,rfl,h3⟩:=onNP_of h2
   obtain ⟨_,_,_,_,rfl,h4⟩:=onLC_of h3
   simp only [Bool.and_eq_true] at h4
   obtain ⟨⟨⟨⟨a1,a2⟩,a3⟩,a4⟩,a5⟩:=h4
   exact sndS_cmp C hS hB a1 a2 (of_decide_eq_true a3) (of_decide_eq_true a4) a5
 | .aug i op e,x,h=>by
   obtain ⟨_,_,_,_,rfl,hq1⟩:=onAug_of h
   obtain ⟨_,_,rfl,hq2⟩:=onName_of hq1
   replace h:=hq2
   · simp only [Bool.and_eq_true] at h
     obtain ⟨⟨⟨h1,h2⟩,h3⟩,h4⟩:=h
     exact sndS_aug C h1 h2 h4 (sndE e X c _ C h3)
 | .ret e,x,h=>by
   obtain ⟨_,_,rfl,hq1⟩:=onRet_of h
   obtain ⟨_,rfl,hq2⟩:=onO_of hq1
   replace h:=hq2
   · rw [Bool.and_eq_true] at h
     exact sndS_ret h.2 (sndE e X c _ C h.1)
 | .retL _ _ _ _,x,h=>by
   cases h
 | .retN,x,h=>by
   obtain ⟨y,_,rfl,hh⟩:=onRet_of h
   obtain rfl:=Option.isNone_iff_eq_none.mp hh
   exact sndS_retN
 | .ifs t a b,x,h=>by
   obtain ⟨_,_,_,_,rfl,hq1⟩:=onIfS_of h
   replace h:=hq1
   · simp only [Bool.and_eq_true] at h
     exact sndS_ifs (sndT t X c _ C h.1.1) (sndSs a _ h.1.2) (sndSs b _ h.2)
 | .for_ tg src body,x,h=>by
   obtain ⟨_,_,_,_,_,rfl,hq1⟩:=onFor_of h
   obtain ⟨rfl,hq2⟩:=on0_of hq1
   replace h:=hq2
   · simp only [Bool.and_eq_true] at h
     exact sndS_for C h.1.1 (sndI src X c _ _ C h.1.2) (fun v=>ckI_set h.1.2 _ v) (sndSs body _ h.2)
 | .while_ t body,x,h=>by
   obtain ⟨_,_,_,_,rfl,hq1⟩:=onWh_of h
   obtain ⟨rfl,hq2⟩:=on0_of hq1
   replace h:=hq2
   · rw [Bool.and_eq_true] at h
     exact sndS_while C (sndT t X c _ C h.1) (sndSs body _ h.2)
 | .append i e,x,h=>by
   obtain ⟨_,_,rfl,hh⟩:=onEx_of h
   obtain ⟨_,_,_,_,_,rfl,hln,h2⟩:=onM_of hh
   obtain ⟨_,_,rfl,h3⟩:=onName_of h2
   obtain ⟨_,rfl,h4⟩:=on1_of h3
   simp only [Bool.and_eq_true] at h4
   obtain ⟨⟨⟨a1,a2⟩,a3⟩,a4⟩:=h4
   have z:=of_decide_eq_true a1
   subst z
   exact sndS_append C a2 hln a3 a4 (sndE e X c _ C a3)
 | .extend i e,x,h=>by
   obtain ⟨_,_,rfl,hh⟩:=onEx_of h
   obtain ⟨_,_,_,_,_,rfl,hln,h2⟩:=onM_of hh
   obtain ⟨_,_,rfl,h3⟩:=onName_of h2
   obtain ⟨_,rfl,h4⟩:=on1_of h3
   simp only [Bool.and_eq_true] at h4
   obtain ⟨⟨⟨a1,a2⟩,a3⟩,a4⟩:=h4
   have z:=of_decide_eq_true a1
   subst z
   exact sndS_extend C a2 hln a3 a4 (sndE e X c _ C a3)
 | .setix i j e,x,h=>by
   obtain ⟨_,_,_,rfl,hq1⟩:=onAsg_of h
   obtain ⟨_,rfl,hq2⟩:=on1_of hq1
   obtain ⟨_,_,_,rfl,hq3⟩:=onSub_of hq2
   obtain ⟨_,_,rfl,hq4⟩:=onName_of hq3
   replace h:=hq4
   · simp only [Bool.and_eq_true] at h
     obtain ⟨⟨⟨⟨⟨h1,h2⟩,h3⟩,h4⟩,h5⟩,h6⟩:=h
     exact sndS_setix C h1 h2 h3 h4 h5 h6 (sndE e X c _ C h2) (sndE j X c _ C h5)
 | .pass,x,h=>by
   obtain ⟨_,⟨_,rfl⟩ | ⟨e,_⟩ | ⟨e,_⟩⟩:=isPB_of h
   · exact sndS_pass
   · cases e
   · cases e
 | .brk,x,h=>by
   obtain ⟨_,⟨e,_⟩ | ⟨_,rfl⟩ | ⟨e,_⟩⟩:=isPB_of h
   · cases e
   · exact sndS_brk
   · cases e
 | .cont,x,h=>by
   obtain ⟨_,⟨e,_⟩ | ⟨e,_⟩ | ⟨_,rfl⟩⟩:=isPB_of h
   · cases e
   · cases e
   · exact sndS_cont
theorem sndSs:∀ (ss:Ss) (xs:List Stmt),ckSs c ss xs = true→PSs X xs (tS X.K (evSs cx ss))
 | .nil,xs,h=>by
   obtain ⟨rfl,hq1⟩:=on0_of h
   replace h:=hq1
   · exact sndS_nil
 | .cons s ss,xs,h=>by
   obtain ⟨_,_,rfl,hq1⟩:=onS_of h
   replace h:=hq1
   · rw [Bool.and_eq_true] at h
     exact sndS_cons (sndS s _ h.1) (sndSs ss _ h.2)
end
end
end PP
end
section
namespace PP
open PySem L2 PyProof.Rows
variable [Tbs]
structure Mk (X:Cx) (P:Addr) (q:Str):Prop where
 cd:∃ c,X.env.code = .ref c∧PySem.W.CodeHd X.base c P
 ql:X.env.qual++"<lambda>" = q
 tb:(P,q)∈Tbs.ts
 un:∀ t∈Tbs.ts,t.1 = P→t.2 = q
 bm:∃ bm ob,X.mg "__builtins__" = some (.ref bm)∧bm≠builtinsNs∧X.base.get? bm = some ob∧ob.cls = .type "module"∧ob.dict = some builtinsNs∧ob.data = .plain
theorem among_snoc {p:Pos} {a b:Int} {c v:Value} (l:List Value) (h:TriplesOk l) (e:codeAmong p (l++[rawInt a,rawInt b,c]) = some v):codeAmong p l = some v∨v = c:=by
 fun_induction TriplesOk l with
 | case1 =>
   simp only [List.nil_append,codeAmong,rawInt] at e
   split at e
   · cases e;exact .inr rfl
   · cases e
 | case2 a' t b' u x rest ih =>
   simp only [List.cons_append,codeAmong] at e ⊢
   split at e
   · rename_i hc;rw [if_pos hc];exact .inl e
   · rename_i hc;rw [if_neg hc];exact ih h e
 | case3 l h1 h2=>exact h.elim
theorem fz_ok {P:Program} {w:World} {H:Hp} {h:Heap} {a:Addr} {o:Obj} (g:h.get? a = some o):ObjOk P w H h a (fzO a o):=⟨g,g,⟨o,g⟩,fun h1 h2 e1 k=>k _ e1⟩
section
variable {X:Cx} {cx:Cl} {k:Nat}
theorem mk_fn {pins:List (Addr × Obj)} {s:Shared} {σ:L2.St} {H:Hp} {P:Addr} {q:Str} {params:Arguments} {body:Expr} {scope:Scope} {pos:Pos} {clos:List (Str × Addr)} {Q:VK} (I:Inv X pins σ H s) (M:Mk X P q) (tabs:Tabs H) (hcl:closureFor scope X.env = pure clos) (hdef:defaultsOf params X.env = ([],[]))
 (h:∀ (f c':Addr) (oc:Obj) (vs:Array Value) (tk:Tok) (pm ctv:Value) (H':Hp),Sim H H'→Tabs H'→Fz H' f (PySem.W.kla_obj "<lambda>" q params body scope clos pm c' ctv)→Fz H' c' oc→oc.data = .fields vs→vs[1]? = some (.str q tk)→Q (.ref f) H') :
 wpAny (model X.prog X.w) X.A (eval (.Lambda params body scope pos) X.env) (EP X pins σ Q) X.xe s:=by
 refine PySem.W.kla_eval hdef ?_
 rw [M.ql]
 obtain ⟨ps,hP,tr,am⟩:=tabs _ M.tb
 dsimp only at hP am
 obtain ⟨c,hcode,CH⟩:=M.cd
 obtain ⟨bm,ob,b1,b2,b3,b4,b5,b6⟩:=M.bm
 have hg:s.heap.Ns mainGlobals X.mg:=I.mod.glob.keeps I.bk
 have hPh:s.heap.get? P = some (PySem.W.tabObj ps):=I.hok P _ hP
 have hgP:mainGlobals≠P:=fun z=>by
  obtain ⟨o,es,ep,e,hd,_⟩:=hg
  rw [z,hPh] at e;cases e;cases hd
 have hbP:bm≠P:=fun z=>by
  have:=(I.bs _ _ b3).2
  rw [z,hP] at this;cases this
 have hbG:bm≠mainGlobals:=fun z=>by
  obtain ⟨o,es,ep,e,hd,_⟩:=hg
  have:=I.bk _ _ b3
  rw [z,e] at this;cases this;rw [hd] at b6;cases b6
 have BA:s.heap.BuiltinsAt X.mg P:=⟨bm,ob,b1,b2,hbG,hbP,I.bk _ _ b3,b4,b5,b6⟩
 cases ca:codeAmong pos ps.toList with
 | some cv =>
   refine PySem.W.kla_makeFunctionHit (mg:=X.mg) hcl I.ok.glob hg hcode (CH.keeps I.bk) hPh tr ca BA fun ctv h' tk hk hsz=>?_
   obtain ⟨c',oc,vs,t,rfl,fc,hd,hv⟩:=am pos cv ca
   have hn:H h'.objs.size = none:=I.hok.fresh hsz
   have sm:=same_new hn (fzO h'.objs.size (PySem.W.kla_obj "<lambda>" q params body scope clos ((X.mg "__name__").getD .none) c' ctv))
   refine ⟨.ref h'.objs.size,_,I.laid (t':=tk) (fun b u e=>Heap.get?_push_of_some _ (hk b u e)) hsz (fz_ok (Heap.get?_push_size _ rfl)),rfl,?_⟩
   exact h _ c' oc vs t _ ctv _ (.of sm) (tabs.keep fun b o _ e=>sm b o e) upd_same (sm _ _ fc) hd hv
 | none =>
   refine PySem.W.kla_makeFunction (mg:=X.mg) hcl I.ok.glob hg hcode (CH.keeps I.bk) hPh tr ca hgP BA fun c' ctv h' tk hx hge hlt hrec htb=>?_
   obtain ⟨c₂,oc,vs,t,e2,hoc,hd,hv⟩:=hrec
   cases e2
   generalize ho:PySem.W.kla_obj "<lambda>" q params body scope clos ((X.mg "__name__").getD .none) c' ctv = fo at *
   have hfl:s.heap.objs.size≤h'.objs.size:=Nat.le_of_lt (Nat.lt_of_le_of_lt hge hlt)
   have nc:H c' = none:=I.hok.fresh hge
   have nf:H h'.objs.size = none:=I.hok.fresh hfl
   have cP:c'≠P:=fun z=>by rw [z,hP] at nc;cases nc
   have fP:h'.objs.size≠P:=fun z=>by rw [z,hP] at nf;cases nf
   have cf:c'≠h'.objs.size:=Nat.ne_of_lt hlt
   let H1:=upd H P (.tbl (ps ++ #[rawInt pos.line,rawInt pos.col,.ref c']))
   let H2:=upd H1 c' (fzO c' oc)
   let H3:=upd H2 h'.objs.size (fzO h'.objs.size fo)
   have at3:∀ b,b≠P→b≠c'→b≠h'.objs.size→H3 b = H b:=fun b x y z=>by
    show upd H2 _ _ b = _
    rw [upd_ne z]
    show upd H1 _ _ b = _
    rw [upd_ne y]
    show upd H _ _ b = _
    rw [upd_ne x]
   have atf:H3 h'.objs.size = some (fzO h'.objs.size fo):=upd_same
   have atc:H3 c' = some (fzO c' oc):=by
    show upd H2 _ _ c' = _
    rw [upd_ne cf]
    exact upd_same
   have atP:H3 P = some (.tbl (ps ++ #[rawInt pos.line,rawInt pos.col,.ref c'])):=by
    show upd H2 _ _ P = _
    rw [upd_ne (Ne.symm fP)]
    show upd H1 _ _ P = _
    rw [upd_ne (Ne.symm cP)]
    exact upd_same
   have atO:∀ b o,b≠P→H b = some o→H3 b = some o:=fun b o n e=>by
    rw [at3 b n (fun z=>by rw [z,nc] at e;cases e) (fun z=>by rw [z,nf] at e;cases e)]
    exact e
   have nt3:∀ b o,(∀ qs,o≠.tbl qs)→H b = some o→H3 b = some o:=fun b o n e=>atO b o (fun z=>by rw [z,hP] at e;cases e;exact n _ rfl) e
   have kh:∀ b o,b≠P→s.heap.get? b = some o→(h'.push fo).get? b = some o:=fun b o n e=>Heap.get?_push_of_some _ (hx b o n e)
   have gP:(h'.push fo).get? P = some (PySem.W.tabObj (ps ++ #[rawInt pos.line,rawInt pos.col,.ref c'])):=Heap.get?_push_of_some _ htb
   have hok3:HOk X.prog X.w H3 (h'.push fo):=fun b u e=>by
    by_cases hf:b = h'.objs.size
    · subst hf;rw [atf] at e;cases e;exact fz_ok (Heap.get?_push_size _ (by rw [← ho];rfl))
    · by_cases hc:b = c'
      · subst hc;rw [atc] at e;cases e;exact fz_ok (Heap.get?_push_of_some _ hoc)
      · by_cases hp:b = P
        · subst hp;rw [atP] at e;cases e;exact gP
        · rw [at3 b hp hc hf] at e
          refine (I.hok b u e).stay (fun b' u' z g=>kh b' u' ?_ g) (fun b' z=>nt3 b' _ (fun qs w=>by cases w) z) fun b' xs z=>nt3 b' _ (fun qs w=>by cases w) z
          rcases z with z | z
          · rw [z];exact hp
          · rintro rfl;rw [hP] at z;cases z
   have un3:Un X.fs [] H H3 s.heap (h'.push fo):=⟨fun b o e n _ _=>kh b o (fun z=>by rw [z,hP] at n;cases n) e,fun b o e n _ _=>⟨o.slots,kh b o (fun z=>by rw [z,hP] at n;cases n) e⟩,
    fun b o e n _=>by
     rw [at3 b (fun z=>by rw [z,hP] at n;cases n) (Nat.ne_of_lt (Nat.lt_of_lt_of_le (Heap.lt_size e) hge)) (Nat.ne_of_lt (Nat.lt_of_lt_of_le (Heap.lt_size e) hfl))];exact n,
    fun b o e _=>by
     by_cases hp:b = P
     · exact ⟨_,hp▸gP⟩
     · exact ⟨o,kh b o hp e⟩,
    fun b xs e=>nt3 b _ (fun qs w=>by cases w) e,fun b o u e=>nt3 b _ (fun qs w=>by cases w) e,
    fun b qs e=>by
     by_cases hp:b = P
     · subst hp;rw [hP] at e;cases e;exact ⟨_,atP⟩
     · exact ⟨#[],by rw [atO b _ hp e];simp⟩⟩
   refine ⟨.ref h'.objs.size,H3,I.un (t':=tk) un3 hok3,rfl,?_⟩
   refine h _ c' oc vs t _ ctv H3 ⟨fun b o n e=>nt3 b o (fun qs w=>by rw [w] at n;exact n) e,fun b qs e=>?_⟩ (fun t' ht=>?_) (by rw [ho];exact atf) atc hd hv
   · by_cases hp:b = P
     · exact ⟨_,hp▸atP⟩
     · exact ⟨qs,atO b _ hp e⟩
   · have fzk:∀ a o,Fz H a o→Fz H3 a o:=fun a o z=>nt3 a _ (fun qs w=>by cases w) z
     by_cases hp:t'.1 = P
     · have:=M.un t' ht hp
       refine ⟨_,by rw [hp];exact atP,by simpa using TriplesOk_snoc pos.line pos.col (.ref c') _ tr,fun p cv e=>?_⟩
       rw [Array.toList_append] at e
       rcases among_snoc _ tr e with z | z
       · obtain ⟨c₁,o₁,v₁,t₁,z1,z2,z3,z4⟩:=am p cv z
         exact ⟨c₁,o₁,v₁,t₁,z1,fzk _ _ z2,z3,by rw [this];exact z4⟩
       · exact ⟨c',oc,vs,t,z,atc,hd,by rw [this];exact hv⟩
     · obtain ⟨qs,a1,a2,a3⟩:=tabs t' ht
       refine ⟨qs,atO _ _ hp a1,a2,fun p cv e=>?_⟩
       obtain ⟨c₁,o₁,v₁,t₁,z1,z2,z3⟩:=a3 p cv e
       exact ⟨c₁,o₁,v₁,t₁,z1,fzk _ _ z2,z3⟩
end
end PP
end
section
namespace PP
open PySem L2 PyProof.Rows
variable [Tbs]
section
variable {K:PySem.W.Frag} {H H':Hp} {h:Heap} {F:Addr→Prop} {cs:List (Addr × Obj)}
theorem Un0.same (u:Un0 H h cs):Same H (addF H cs):=fun b o e=>addF_of u e
theorem sim_del (u:Un0 H h cs) (s:Sim (addF H cs) H'):Sim H (delF H' cs):=by
 have out:∀ b o,H b = some o→cs.lookup b = none:=fun b o e=>by
  cases q:cs.lookup b with
  | none=>rfl
  | some x=>rw [(u b x q).1] at e;cases e
 exact ⟨fun b o n e=>by rw [delF_out (out b o e)];exact s.nt b o n (u.same b o e),fun b ps e=>by
  obtain ⟨qs,z⟩:=s.tb b ps (u.same b _ e)
  exact ⟨qs,by rw [delF_out (out b _ e)];exact z⟩⟩
theorem fz_del (z:Fz0 H cs) (hc:∀ b o,cs.lookup b = some o→∃ v,o.data = .cell v) {a:Addr} {o:Obj} (e:Fz H a o) (n:∀ v,o.data≠.cell v):Fz (delF H cs) a o:=by
 cases q:cs.lookup a with
 | none=>unfold Fz;rw [delF_out q];exact e
 | some x =>
   have y:=z a x q
   unfold Fz at e
   rw [e] at y
   unfold fzO at y
   cases y
   obtain ⟨v,d⟩:=hc a o q
   exact absurd d (n v)
theorem tabs_del (t:Tabs H) (z:Fz0 H cs) (hc:∀ b o,cs.lookup b = some o→∃ v,o.data = .cell v):Tabs (delF H cs):=fun y hy=>by
 obtain ⟨ps,h1,h2,h3⟩:=t y hy
 refine ⟨ps,?_,h2,fun pos cv e=>?_⟩
 · cases q:cs.lookup y.1 with
   | none=>rw [delF_out q];exact h1
   | some x =>
     have:=z _ x q
     rw [h1] at this
     cases this
 · obtain ⟨c,o,vs,tk,e1,e2,e3,e4⟩:=h3 pos cv e
   exact ⟨c,o,vs,tk,e1,fz_del z hc e2 (fun v w=>by rw [e3] at w;cases w),e3,e4⟩
theorem sqt_del (z:Fz0 H cs) {a:Addr} {xs:List V} (h:SqT K H a xs):SqT K (delF H cs) a xs:=by
 rcases h with h | h
 · left
   cases q:cs.lookup a with
   | none =>
     rcases h with h | ⟨o,h⟩
     · exact .inl (by rw [delF_out q];exact h)
     · exact .inr ⟨o,by rw [delF_out q];exact h⟩
   | some x =>
     have y:=z a x q
     rcases h with h | ⟨o,h⟩
     · rw [h] at y;cases y
     · rw [h] at y;cases y
 · exact .inr h
mutual
theorem rel_del (z:Fz0 H cs):∀ (d:D) (v:V),lf d = true→Rel K H F d v→Rel K (delF H cs) F d v
 | .non,v,_,h=>by unfold Rel at h ⊢;exact h
 | .bl b,v,_,h=>by unfold Rel at h ⊢;exact h
 | .int i,v,_,h=>by unfold Rel at h ⊢;exact h
 | .str x,v,_,h=>by unfold Rel at h ⊢;exact h
 | .lst ds,v,l,h=>by unfold lf at l;cases l
 | .tup ds,v,l,h=>by
   unfold lf at l
   unfold Rel at h ⊢
   obtain ⟨a,xs,e,h1,h3⟩:=h
   exact ⟨a,xs,e,sqt_del z h1,relL_del z ds xs l h3⟩
 | .fn _ _,v,l,h=>by unfold lf at l;cases l
theorem relL_del (z:Fz0 H cs):∀ (ds:List D) (xs:List V),lfL ds = true→RelL K H F ds xs→RelL K (delF H cs) F ds xs
 | [],xs,_,h=>by unfold RelL at h ⊢;exact h
 | d::ds,xs,l,h=>by
   unfold lfL at l
   rw [Bool.and_eq_true] at l
   unfold RelL at h ⊢
   obtain ⟨y,ys,e,h1,h2⟩:=h
   exact ⟨y,ys,e,rel_del z d y l.1 h1,relL_del z ds ys l.2 h2⟩
end
theorem lookup_mem {b:Addr} {o:Obj}:∀ {l:List (Addr × Obj)},l.lookup b = some o→(b,o)∈l
 | [],h=>by simp at h
 | (c,x)::l,h=>by
   rw [List.lookup_cons] at h
   cases q:(b == c) with
   | true =>
     rw [q] at h
     cases h
     rw [show b = c by simpa using q]
     exact List.mem_cons_self
   | false =>
     rw [q] at h
     exact List.mem_cons_of_mem _ (lookup_mem h)
theorem zip_lookup:∀ {cells:List Addr} {os:List Obj} {p:Addr × Obj},cells.Nodup→p∈cells.zip os→(cells.zip os).lookup p.1 = some p.2
 | [],_,_,_,h=>by simp at h
 | _::_,[],_,_,h=>by simp at h
 | c::cells,o::os,p,n,h=>by
   rw [List.zip_cons_cons] at h ⊢
   rcases List.mem_cons.mp h with rfl | h
   · simp [List.lookup]
   · have hne:p.1≠c:=fun z=>(List.nodup_cons.mp n).1 (by rw [← z];exact (List.of_mem_zip (a:=p.1) (b:=p.2) h).1)
     have:(p.1 == c) = false:=by simpa using hne
     rw [List.lookup_cons,this]
     exact zip_lookup (List.nodup_cons.mp n).2 h
end
def CapsOk (X:Cx):List Nat→List Str→List Addr→Prop
 | [],ys,cs=>ys = []∧cs = []
 | i::r,ys,cs=>∃ y ys' c cs',ys = y::ys'∧cs = c::cs'∧X.N[i]? = some y∧X.env.kindOf y = some .cell∧X.env.cells.lookup y = some c∧CapsOk X r ys' cs'
section
variable {X:Cx} {cx:Cl} {k:Nat}
theorem flat_rel {K:PySem.W.Frag} {H:Hp} {F:Addr→Prop} {d:D} {v:V} (f:flat d = true) (r:Rel K H F d v):v = flV d:=by
 cases d<;>first | (unfold Rel at r;exact r) | (unfold flat at f;cases f)
theorem caps_mem:∀ {caps:List Nat} {ys:List Str} {cells:List Addr},CapsOk X caps ys cells→∀ c∈cells,∃ y∈ys,X.env.cells.lookup y = some c
 | [],ys,cells,h=>by obtain ⟨rfl,rfl⟩:=h;simp
 | i::r,ys,cells,h=>by
   obtain ⟨y,ys',c,cs',rfl,rfl,_,_,e,h⟩:=h
   intro c' hc
   rcases List.mem_cons.mp hc with rfl | hc
   · exact ⟨y,List.mem_cons_self,e⟩
   · obtain ⟨y',h1,h2⟩:=caps_mem h c' hc
     exact ⟨y',List.mem_cons_of_mem _ h1,h2⟩
theorem caps_nodup (inj:∀ x y c,X.env.cells.lookup x = some c→X.env.cells.lookup y = some c→x = y):∀ {caps:List Nat} {ys:List Str} {cells:List Addr},CapsOk X caps ys cells→ys.Nodup→cells.Nodup∧cells.length = ys.length
 | [],ys,cells,h,_=>by obtain ⟨rfl,rfl⟩:=h;simp
 | i::r,ys,cells,h,n=>by
   obtain ⟨y,ys',c,cs',rfl,rfl,_,_,e,h⟩:=h
   obtain ⟨n1,n2⟩:=List.nodup_cons.mp n
   obtain ⟨a,b⟩:=caps_nodup inj h n2
   refine ⟨List.nodup_cons.mpr ⟨fun z=>?_,a⟩,by simp [b]⟩
   obtain ⟨y',h1,h2⟩:=caps_mem h c z
   exact n1 (inj y y' c e h2▸h1)
theorem caps_ok {pins:List (Addr × Obj)} {σ:L2.St} {H:Hp} {s:Shared} {G:Gh} {F:Addr→Prop} {δ:Loc} (I:Inv X pins σ H s) (ok:Ok X.K G F σ H δ):∀ {caps:List Nat} {ys:List Str} {cells:List Addr} {cs:List D},CapsOk X caps ys cells→capsD δ caps = some cs →
 ∃ os:List Obj,os.length = cells.length∧(∀ p∈cells.zip os,H p.1 = none∧s.heap.get? p.1 = some p.2∧(∃ y,X.env.cells.lookup y = some p.1)∧∃ v,p.2.data = .cell v)∧∀ H':Hp,(∀ p∈cells.zip os,Fz H' p.1 p.2)→CellsV H' cells cs
 | [],ys,cells,cs,h,e=>by
   obtain ⟨rfl,rfl⟩:=h
   unfold capsD at e
   cases e
   exact ⟨[],rfl,by simp,fun _ _=>rfl⟩
 | i::r,ys,cells,cs,h,e=>by
   obtain ⟨y,ys',c,cs',rfl,rfl,hN,hk,hc,h⟩:=h
   unfold capsD at e
   cases q:get δ i with
   | none=>rw [q] at e;cases e
   | some d =>
     rw [q] at e
     dsimp only at e
     split at e
     · rename_i hf
       rw [Option.map_eq_some_iff] at e
       obtain ⟨ds,e1,rfl⟩:=e
       obtain ⟨os,l,a1,a2⟩:=caps_ok I ok h e1
       obtain ⟨v,ev,rb,_⟩:=ok.look q
       have rv:v = flV d:=by
        rcases rb with rb | ⟨_,_,_,z,_⟩
        · exact flat_rel hf rb
        · rw [z] at hf;cases hf
       subst rv
       obtain ⟨m,hn,hl⟩:=I.loc
       obtain ⟨u,ru,lk⟩:=hl i y _ hN ev (.inr (.inl hk))
       rcases lk with ⟨z,_⟩ | ⟨_,c',hc',o,ho,hd⟩
       · rw [hk] at z;cases z
       · rw [hc] at hc';cases hc'
         refine ⟨o::os,by simp [l],fun p hp=>?_,fun H' hz=>?_⟩
         · rw [List.zip_cons_cons] at hp
           rcases List.mem_cons.mp hp with rfl | hp
           · exact ⟨I.freeC y c hc,ho,⟨y,hc⟩,_,hd⟩
           · exact a1 p hp
         · exact ⟨d,ds,o,u,rfl,hf,hz (c,o) (by rw [List.zip_cons_cons];exact List.mem_cons_self),hd,ru,a2 H' fun p hp=>hz p (by rw [List.zip_cons_cons];exact List.mem_cons_of_mem _ hp)⟩
     · cases e
def tLm (q:Str) (params:Arguments) (body:Expr) (scope:Scope) (clos:List (Str × Addr)):TE:=fun _ H Q=>Tabs H∧∀ (f c':Addr) (oc:Obj) (vs:Array Value) (tk:Tok) (pm ctv:Value) (H':Hp),Sim H H'→Tabs H'→Fz H' f (PySem.W.kla_obj "<lambda>" q params body scope clos pm c' ctv)→Fz H' c' oc→oc.data = .fields vs→vs[1]? = some (.str q tk)→Q (.ref f) H'
theorem pe_lm {P:Addr} {q:Str} {params:Arguments} {body:Expr} {scope:Scope} {pos:Pos} {clos:List (Str × Addr)} (M:Mk X P q) (hcl:closureFor scope X.env = pure clos) (hdef:defaultsOf params X.env = ([],[])):PE X (.Lambda params body scope pos) (tLm q params body scope clos) :=
 fun pins s σ H Q I ⟨t,h⟩=>mk_fn I M t hcl hdef h
theorem retL_ev {f n:Nat} {es:Es} {caps:List Nat} {δ:Loc} {o:Out} (e:evS cx (.retL f es n caps) δ = some o):∃ ds δ1 cs d,evEs cx es δ = some (ds,δ1)∧capsD δ1 caps = some cs∧cx.hf f = true∧cx.call f (ds++[.fn n cs]) = some d∧lf d = true∧o = .rt d δ1:=by
 simp only [evS,Option.bind_eq_bind,Option.bind_eq_some_iff] at e
 obtain ⟨⟨ds,δ1⟩,e1,cs,e2,e⟩:=e
 dsimp only at e e2
 split at e
 · rename_i hf
   rw [Option.map_eq_some_iff] at e
   obtain ⟨r,er,e⟩:=e
   unfold lfO at er
   split at er
   · split at er
     · rename_i r' q hl
       cases er
       exact ⟨ds,δ1,cs,r,e1,e2,hf,q,hl,e.symm⟩
     · cases er
   · cases er
 · cases e
theorem snd_retL {c:Ck} (C:Cok X c cx k) {f n:Nat} {es:Es} {caps:List Nat} {x:Str} {y:Expr} {ys:List Expr} {ps:List Str} {P:Addr} {L:Lam} {cells:List Addr} {p lp pos rp:Pos} (hL:Tbs.lams.lookup n = some L) (M:Mk X P L.qual) (hcl:closureFor L.scope X.env = pure (L.caps.zip cells)) (hdef:defaultsOf L.params X.env = ([],[]))
 (hcp:CapsOk X caps L.caps cells) (hnd:L.caps.Nodup) (hfn:∀ y,X.fn y = true) (n0:noPk es = true) (ef:c.fns[f]? = some (x,ps)) (hg:globIs c x = true)
 (hA:∀ z tz,PE X z tz→starEach [z] X.env = (false,eval z X.env)::starEach [] X.env→PA X (y::(ys++[z])) (tEsL X.K cx es tz)) (he:∀ z,starEach (y::(ys++[z])) X.env = (false,eval y X.env)::starEach (ys++[z]) X.env)
 (hpl:∀ z,starEach [z] X.env = (false,eval z X.env)::starEach [] X.env→(backTo pos (starEach (ys++[z]) X.env)).any (·.1) = false) :
 PS X (.Return (some (.Call (.Name x p) (y::(ys++[.Lambda L.params L.body L.scope lp])) [] pos)) rp) (tS X.K (evS cx (.retL f es n caps))):=by
 obtain ⟨g1,g2,g3⟩:=C.global hg
 intro pins s σ H E I hq
 obtain ⟨G,F,δ,o,ok,ev,post⟩:=hq
 obtain ⟨ds,δ1,cs,d,ea,ec,hf,er,hl,rfl⟩:=retL_ev ev
 refine wpAny_Return_some ?_
 obtain ⟨a,fd,hm,hk,hb,fn⟩:=C.fnF f _ _ ef hf
 have fin:wpAny (model X.prog X.w) X.A (eval (.Call (.Name x p) (y::(ys++[.Lambda L.params L.body L.scope lp])) [] pos) X.env) (EP X pins σ fun v H'=>∃ F',Step G F H F' H'∧Ok X.K G F' σ H' δ1∧Rel X.K H' F' d v) X.xe s:=by
  refine wpAny_Call_Name_kw (ld_glob I g1 hm ?_ g2)
  refine PySem.W.callWith_K (h₀:=X.base) I.ok.mod.kin hk (thn (hA _ _ (pe_lm M hcl hdef) rfl pos pins s σ H (fun vs' H1=>∃ vs F1 fa c' oc ws tk pm ctv,vs' = vs++[.ref fa]∧Step G F H F1 H1∧Ok X.K G F1 σ H1 δ1∧RelL X.K H1 F1 ds vs ∧
   Fz H1 fa (PySem.W.kla_obj "<lambda>" L.qual L.params L.body L.scope (L.caps.zip cells) pm c' ctv)∧Fz H1 c' oc∧oc.data = .fields ws∧ws[1]? = some (.str L.qual tk)) I ⟨G,F,δ,ds,δ1,ok,ea,fun vs H1 F1 st1 sm1 ok1 r1=>⟨ok1.tabs,fun fa c' oc ws tk pm ctv H2 s2 t2 z1 z2 z3 z4=>?_⟩⟩) fun us s1 ⟨vs',H1,I1,r,q⟩=>⟨I1.kIn,?_⟩) (he _) (hpl _ rfl)
  · obtain ⟨ok2,st2⟩:=ok1.call s2 t2
    exact ⟨vs,F1,fa,c',oc,ws,tk,pm,ctv,rfl,st1.trans st2,ok2,RelL.step ok1.fd st2 ds vs (r1.rl n0),z1,z2,z3,z4⟩
  obtain ⟨vs,F1,fa,c',oc,ws,tk,pm,ctv,rfl,st,ok1,rl,z1,z2,z3,z4⟩:=q
  obtain ⟨os,hol,a1,a2⟩:=caps_ok I1 ok1 hcp ec
  have nd:=(caps_nodup I1.ok.inj hcp hnd).1
  have un0:Un0 H1 s1.heap (cells.zip os):=fun b o e=>⟨(a1 (b,o) (lookup_mem e)).1,(a1 (b,o) (lookup_mem e)).2.1⟩
  have isc:∀ b o,(cells.zip os).lookup b = some o→∃ v,o.data = .cell v:=fun b o e=>(a1 (b,o) (lookup_mem e)).2.2.2
  have nfr:∀ b o,(cells.zip os).lookup b = some o→X.s₀.heap.objs.size≤b∧b∉frs X.stack:=fun b o e=>by
   obtain ⟨_,_,⟨w,hw⟩,_⟩:=a1 (b,o) (lookup_mem e)
   have hsz:=I1.ok.cab w b (hfn w) hw
   refine ⟨hsz,fun z=>?_⟩
   rcases List.mem_cons.mp (I1.stkSub b z) with z | z
   · exact I1.cne w b hw z
   · obtain ⟨_,o',ho',_⟩:=I1.ok.funs.mem z
     exact absurd (Nat.lt_of_lt_of_le (Heap.lt_size ho') hsz) (Nat.lt_irrefl _)
  have nb:∀ b o,(cells.zip os).lookup b = some o→X.base.get? b = none∧b∉frs X.stack:=fun b o e=>⟨Heap.get?_none_of_le (Nat.le_trans I1.ok.bsz (nfr b o e).1),(nfr b o e).2⟩
  have sm1:=un0.same
  have ok2:=ok1.same' sm1
  have fv:FnV (addF H1 (cells.zip os)) n cs fa:=⟨L,pm,ctv,c',oc,ws,tk,cells,hL,sm1 _ _ z1,sm1 _ _ z2,z3,z4,nd,(caps_nodup I1.ok.inj hcp hnd).2,a2 _ fun p hp=>addF_in (zip_lookup nd hp)⟩
  have sp:spFF X.K (cx.call f) (vs++[.ref fa]) (addF H1 (cells.zip os)) (fun v H'=>Sim (addF H1 (cells.zip os)) H'∧Tabs H'∧Rel X.K H' F1 d v) E0 :=
   ⟨F1,ds,vs,n,cs,fa,d,ok2.fd,ok2.tf,ok2.tabs,rfl,RelL.step (G:=G) ok1.fd (Step.of_same sm1) ds vs rl,fv,er,fun v H' x1 x2 x3=>⟨x1,x2,x3⟩⟩
  have hl2:(us++([]:List Value)).length = ps.length:=by rw [List.append_nil,← r.length];exact fn.len _ _ _ _ sp
  have bb:=hb s1 us I1.kIn hl2
  rw [List.append_nil] at bb
  refine wpAny_call (codeAny_mono (fn.run X.A X.stack s1 _ ⟨us,[]⟩ us _ _ E0 C.room (Env0.add I1.env0 un0 nb) bb r sp) fun r s' hq=>?_)
  cases r with
  | error e=>exact hq.elim
  | ok fl =>
    cases fl with
    | next=>exact False.elim hq
    | brk=>exact False.elim hq
    | cont=>exact False.elim hq
    | ret u =>
      obtain ⟨v,H',I',rv,fz,x1,x2,x3⟩:=Inv.callF I1 un0 (fun b o e=>(nfr b o e).2) hq
      obtain ⟨ok3,st3⟩:=ok1.call (sim_del un0 x1) (tabs_del x2 fz isc)
      exact ⟨v,_,I',rv,F1,st.trans st3,ok3,rel_del fz d v hl x3⟩
 exact thn fin fun u s1 ⟨v,H1,I1,rv,F1,st,ok1,rl⟩=>⟨v,σ,H1,I1,rv,post v σ H1 F1 st ok1 rl⟩
end
end PP
end
section
namespace PP
open PySem L2 PyProof.Rows
variable [Tbs]
theorem start_ok {K:PySem.W.Frag} {H:Hp} {F:Addr→Prop} {ds:List D} {vs:List V} {N:List Str} (fd:FD F H) (tf:TF F) (tb:Tabs H) (r:RelL K H F ds vs) (hl:vs.length≤N.length):Ok K ⟨H,fun b=>F b∧((∃ xs,H b = some (.lst xs))∨∃ φ,H b = some (.ext φ))⟩ F (start N vs) H (init N.length ds):=by
 have hlen:=r.length
 have low:∀ (i:Nat) (s:Sl),(init N.length ds)[i]? = some s→s = .no∨∃ d,ds[i]? = some d∧s = .val d:=fun i s e=>by
  unfold init at e
  by_cases hi:i < ds.length
  · rw [List.getElem?_append_left (by simpa using hi),List.getElem?_map,List.getElem?_eq_getElem hi] at e
    cases e
    exact .inr ⟨_,List.getElem?_eq_getElem hi,rfl⟩
  · rw [List.getElem?_append_right (by simp;omega),List.getElem?_replicate] at e
    split at e
    · cases e;exact .inl rfl
    · cases e
 refine ⟨Sim.refl H,fd,fun b z=>z.1,fun b z=>z.2,tf,tb,?_,fun i s e=>?_,fun i j es fs a e1=>?_⟩
 · unfold init L2.start
   simp only [List.length_append,List.length_map,List.length_replicate]
   omega
 · rcases low i s e with rfl | ⟨d,e1,rfl⟩
   · trivial
   · obtain ⟨v,hv,rv⟩:=r.get e1
     refine ⟨v,?_,rv⟩
     unfold L2.start
     have hi:i < vs.length:=(List.getElem?_eq_some_iff.mp hv).1
     rw [List.getElem?_append_left (by simpa using hi),List.getElem?_map,hv]
     rfl
 · rcases low i _ e1 with z | ⟨d,_,z⟩<;>cases z
section
variable {P:Program} {w:World} {H H':Hp} {h h':Heap} {cs:List (Addr × Obj)} {F:Addr→Prop}
theorem delF_none {b:Addr} (e:H b = none):delF H cs b = none:=by
 cases q:cs.lookup b with
 | none=>rw [delF_out q];exact e
 | some o=>exact delF_in q
theorem Fz0.out (z:Fz0 H cs) {b:Addr} (n:∀ o,H b≠some (fzO b o)):cs.lookup b = none:=by
 cases q:cs.lookup b with
 | none=>rfl
 | some o=>exact absurd (z b o q) (n o)
theorem Un.add {fs ex:List Addr} (z:Fz0 H cs) (u:Un fs ex (delF H cs) H' h h') (c:Un0 H' h' cs):Un fs ex H (addF H' cs) h h':=by
 have out:∀ {b},H b = none→cs.lookup b = none:=fun {b} e=>z.out fun o q=>by rw [e] at q;cases q
 refine ⟨fun b o e n hb hx=>u.keep b o e (delF_none n) hb hx,fun b o e n hb hx=>u.slot b o e (delF_none n) hb hx,fun b o e n hx=>?_,u.there,fun b xs e=>?_,fun b o y e=>?_,fun b ps e=>?_⟩
 · rw [addF_out (out n)];exact u.free b o e (delF_none n) hx
 · have q:=z.out (b:=b) fun o q=>by rw [e] at q;cases q
   rw [addF_out q];exact u.tups b xs (by rw [delF_out q];exact e)
 · cases q:cs.lookup b with
   | none=>rw [addF_out q];exact u.frzs b o y (by rw [delF_out q];exact e)
   | some o'=>rw [addF_in q,← z b o' q];exact e
 · have q:=z.out (b:=b) fun o q=>by rw [e] at q;cases q
   obtain ⟨more,x⟩:=u.tbls b ps (by rw [delF_out q];exact e)
   exact ⟨more,by rw [addF_out q];exact x⟩
theorem sim_add (z:Fz0 H cs) (s:Sim (delF H cs) H'):Sim H (addF H' cs):=by
 refine ⟨fun b o n e=>?_,fun b ps e=>?_⟩
 · cases q:cs.lookup b with
   | none=>rw [addF_out q];exact s.nt b o n (by rw [delF_out q];exact e)
   | some o'=>rw [addF_in q,← z b o' q];exact e
 · have q:=z.out (b:=b) fun o q=>by rw [e] at q;cases q
   obtain ⟨qs,x⟩:=s.tb b ps (by rw [delF_out q];exact e)
   exact ⟨qs,by rw [addF_out q];exact x⟩
theorem FD.del (fd:FD F H) (z:Fz0 H cs):FD F (delF H cs):=fun b hb=>by
 rcases fd b hb with ⟨xs,e⟩ | ⟨ps,e,t⟩ | ⟨φ,e⟩
 · exact .inl ⟨xs,by rw [delF_out (z.out fun o q=>by rw [e] at q;cases q)];exact e⟩
 · exact .inr (.inl ⟨ps,by rw [delF_out (z.out fun o q=>by rw [e] at q;cases q)];exact e,t⟩)
 · exact .inr (.inr ⟨φ,by rw [delF_out (z.out fun o q=>by rw [e] at q;cases q)];exact e⟩)
theorem FD.sim (fd:FD F H) (s:Sim H H'):FD F H':=fun b hb=>by
 rcases fd b hb with ⟨xs,e⟩ | ⟨ps,e,t⟩ | ⟨φ,e⟩
 · exact .inl ⟨xs,s.nt _ _ trivial e⟩
 · obtain ⟨qs,e⟩:=s.tb b ps e
   exact .inr (.inl ⟨qs,e,t⟩)
 · exact .inr (.inr ⟨φ,s.nt _ _ trivial e⟩)
end
theorem cellsV_os {H:Hp}:∀ {cells:List Addr} {cs:List D},CellsV H cells cs→∃ os:List Obj,os.length = cells.length∧cells.length = cs.length∧(∀ p∈cells.zip os,Fz H p.1 p.2∧∃ v,p.2.data = .cell v) ∧
 ∀ (j:Nat) (c:Addr) (d:D),cells[j]? = some c→cs[j]? = some d→∃ o u,Fz H c o∧o.data = .cell (some u)∧RelV (flV d) u∧flat d = true
 | [],cs,h=>by
   have h:cs = []:=h
   subst h
   exact ⟨[],rfl,rfl,by simp,by simp⟩
 | c::r,cs,h=>by
   obtain ⟨d,ds',o,u,rfl,h1,h2,h3,h4,h5⟩:=h
   obtain ⟨os,e1,e2,e3,e4⟩:=cellsV_os h5
   refine ⟨o::os,by simp [e1],by simp [e2],fun p hp=>?_,fun j c' d' q1 q2=>?_⟩
   · rw [List.zip_cons_cons] at hp
     rcases List.mem_cons.mp hp with rfl | hp
     · exact ⟨h2,_,h3⟩
     · exact e3 p hp
   · cases j with
     | zero=>cases q1;cases q2;exact ⟨o,u,h2,h3,h4,h1⟩
     | succ j=>exact e4 j c' d' (by simpa using q1) (by simpa using q2)
theorem flat_self {K:PySem.W.Frag} {H:Hp} {F:Addr→Prop} {d:D} (f:flat d = true):Rel K H F d (flV d):=by
 cases d<;>first | (unfold Rel;rfl) | (unfold flat at f;cases f)
theorem key_lookup {β:Type}:∀ {l:List (Str × β)} {x:Str} {v:β},(l.map (·.1)).Nodup→(x,v)∈l→l.lookup x = some v
 | [],_,_,_,h=>by simp at h
 | (y,u)::l,x,v,n,h=>by
   rw [List.map_cons] at n
   rcases List.mem_cons.mp h with e | h
   · cases e;simp [List.lookup]
   · have:x≠y:=fun z=>(List.nodup_cons.mp n).1 (by rw [← z];exact List.mem_map.mpr ⟨(x,v),h,rfl⟩)
     have e:(x == y) = false:=by simpa using this
     rw [List.lookup_cons,e]
     exact key_lookup (List.nodup_cons.mp n).2 h
theorem zip_mem {α β:Type}:∀ {l:List α} {m:List β} {j:Nat} {x:α} {v:β},l[j]? = some x→m[j]? = some v→(x,v)∈l.zip m
 | [],_,_,_,_,h,_=>by simp at h
 | _::_,[],_,_,_,_,h=>by simp at h
 | a::l,b::m,0,x,v,h,h'=>by cases h;cases h';exact List.mem_cons_self
 | a::l,b::m,j+1,x,v,h,h'=>List.mem_cons_of_mem _ (zip_mem (j:=j) (by simpa using h) (by simpa using h'))
theorem zip_keys {α β:Type}:∀ {l:List α} {m:List β},l.length = m.length→(l.zip m).map (·.1) = l
 | [],_,_=>by simp
 | _::_,[],h=>by simp at h
 | a::l,b::m,h=>by simp [zip_keys (l:=l) (m:=m) (by simpa using h)]
structure LamOk (L:Lam):Prop where
 kind:L.scope.kind = .function
 co:L.scope.isCoroutine = false
 gen:L.scope.isGenerator = false
 nocell:∀ x∈L.scope.names,x.2≠.cell
 ploc:∀ x∈L.ps,L.scope.names.lookup x = some .local
 cfree:∀ x∈L.caps,L.scope.names.lookup x = some .free
 frees:∀ x∈L.scope.names,x.2 = .free→x.1∈L.caps
 nd:(L.ps++L.caps).Nodup
 bd:∀ (cl:List (Str × Addr)) (pm cdv ct:Value) (us:List Value),us.length = L.ps.length→bindArgs (PySem.W.kla_fn "<lambda>" L.qual L.params L.body L.scope cl pm cdv ct) ⟨us,[]⟩ = pure (L.ps.zip us)
def cxL (P:Program) (w:World) (K:PySem.W.Frag) (mg:Str→Option Value) (base:Heap) (L:Lam) (f:Addr) (cd:Value) (cl:List (Str × Addr)) (A:Around) (outer:List Env) (s:Shared) (H:Hp):Cx where
 prog:=P
 w:=w
 K:=K
 mg:=mg
 base:=base
 A:=A.deeper (PySem.W.envX L.qual L.scope s.heap.objs.size f cd cl)
 N:=L.ps++L.caps
 s₀:=s
 H₀:=H
 env:=PySem.W.envX L.qual L.scope s.heap.objs.size f cd cl
 outer:=outer
 stack:=PySem.W.envX L.qual L.scope s.heap.objs.size f cd cl::outer
 ex:=[]
 calm:=true
 fn:=fun _=>false
 pn:=[]
 xe:=fun _ _=>False
theorem lam_ok {P:Program} {w:World} {K:PySem.W.Frag} {mg:Str→Option Value} {base:Heap} {n k:Nat} {f:List D→Option D} {L:Lam} {cx:Cl} {e:E} (hL:Tbs.lams.lookup k = some L) (lo:LamOk L)
 (hE:∀ (a:Addr) (cd:Value) (cl:List (Str × Addr)) (A:Around) (outer:List Env) (s:Shared) (H:Hp),Room n (A.deeper (PySem.W.envX L.qual L.scope s.heap.objs.size a cd cl))→PE (cxL P w K mg base L a cd cl A outer s H) L.body (tE K cx e))
 (np0:isPk e = false) (hf:∀ ds d,f ds = some d→ds.length = (L.ps++L.caps).length∧∃ δ',evE cx e (init (L.ps++L.caps).length ds) = some (d,δ')):LmOk P w K mg base (n+1) k f:=by
 intro A outer s H a us vs cs Q hr e0 rv fv hq
 obtain ⟨L',pm,ctv,c',oc,ws,tk,cells,h1,fo,fc,hd,hv,cnd,clen,cv⟩:=fv
 rw [hL] at h1
 cases h1
 obtain ⟨F,ds,d,fd,tf,tb,rl,lfl,er,lfd,post⟩:=hq
 obtain ⟨os,e1,e2,e3,e4⟩:=cellsV_os cv
 obtain ⟨hlen,δ',ev⟩:=hf _ _ er
 have lds:ds.length = L.ps.length:=by rw [List.length_append,List.length_append,← e2,clen] at hlen;omega
 have lvs:vs.length = L.ps.length:=by rw [rl.length];exact lds
 have lus:us.length = L.ps.length:=by rw [← rv.length];exact lvs
 have fz0:Fz0 H (cells.zip os):=fun b o q=>(e3 (b,o) (lookup_mem q)).1
 have isc:∀ b o,(cells.zip os).lookup b = some o→∃ v,o.data = .cell v:=fun b o q=>(e3 (b,o) (lookup_mem q)).2
 have hgo:∀ {b:Addr} {o:Obj},Fz H b o→s.heap.get? b = some o:=fun {b o} z=>(e0.hok b _ z).1
 have ho:=hgo fo
 have hcd:s.heap.CodeRec (.ref c') L.qual:=⟨c',oc,ws,tk,rfl,hgo fc,hd,hv⟩
 have lim:s.heap.NoLimit:=e0.mod.nolimit.keeps fun b o e=>(e0.bs b o e).1
 have ndp:L.ps.Nodup:=(List.nodup_append.mp lo.nd).1
 have ndc:L.caps.Nodup:=(List.nodup_append.mp lo.nd).2.1
 have hok0:=HOk.del e0.hok fz0
 refine PySem.W.kla_callFunE hr.depth ho rfl lo.co lo.gen rfl hcd ?_
 rw [lo.bd _ _ _ _ us lus]
 have hloc:∀ y∈L.ps.zip us,L.scope.names.lookup y.1 = some .local:=fun ⟨y,u⟩ hy=>lo.ploc y (List.of_mem_zip hy).1
 refine wpAny_pure (wpAny_newFunctionEnv lo.nocell hloc (fun h₁ hns hsb=>⟨lim.fresh _ hsb,?_⟩) lo.kind)
 show codeAny _ _ (.expr L.body (PySem.W.envX L.qual L.scope s.heap.objs.size a (.ref c') (L.caps.zip cells))) _ _
 have hk₁:∀ b o,s.heap.get? b = some o→h₁.get? b = some o:=fun b o e=>hsb.extBut b o (Nat.ne_of_lt (Heap.lt_size e)) (Heap.get?_push_of_some _ e)
 have clk:∀ (j:Nat) (x:Str) (c:Addr),L.caps[j]? = some x→cells[j]? = some c→(L.caps.zip cells).lookup x = some c:=fun j x c q1 q2=>key_lookup (by rw [zip_keys clen.symm];exact ndc) (zip_mem q1 q2)
 have cof:∀ x c,(L.caps.zip cells).lookup x = some c→∃ j,L.caps[j]? = some x∧cells[j]? = some c:=fun x c q=>by
  have hm:=PySem.mem_of_lookup q
  obtain ⟨j,hj,ej⟩:=List.mem_iff_getElem.mp hm
  rw [List.getElem_zip] at ej
  cases ej
  rw [List.length_zip] at hj
  exact ⟨j,List.getElem?_eq_getElem (by omega),List.getElem?_eq_getElem (by omega)⟩
 have cin:∀ (j:Nat) (c:Addr),cells[j]? = some c→∃ o u dd,cs[j]? = some dd∧Fz H c o∧o.data = .cell (some u)∧RelV (flV dd) u∧(cells.zip os).lookup c = some o:=fun j c q=>by
  have hj:j < cells.length:=(List.getElem?_eq_some_iff.mp q).1
  have q2:cs[j]? = some cs[j]:=List.getElem?_eq_getElem (by omega)
  obtain ⟨o,u,z1,z2,z3,z4⟩:=e4 j c _ q q2
  have q3:os[j]? = some os[j]:=List.getElem?_eq_getElem (by omega)
  have hm:=zip_mem q q3
  have z5:=zip_lookup cnd hm
  have z6:=(e3 _ hm).1
  unfold Fz at z6
  dsimp only at z6 z5
  have z1':=z1
  unfold Fz at z1'
  rw [z6] at z1'
  injection z1' with z1'
  injection z1' with z1'
  exact ⟨o,u,_,q2,z1,z2,z3,by rw [z5,z1']⟩
 -- the frame
 have I:Inv (cxL P w K mg base L a (.ref c') (L.caps.zip cells) A outer s (delF H (cells.zip os))) [] (L2.start (L.ps++L.caps) (vs++cs.map flV)) (delF H (cells.zip os)) { s with heap:=h₁,toks:=s.toks+(L.ps.zip us).length }:=by
  have noA:∀ b:Addr,b∉(cxL P w K mg base L a (.ref c') (L.caps.zip cells) A outer s (delF H (cells.zip os))).ex:=fun b z=>absurd (show b∈([]:List Addr) from z) (by simp)
  refine ⟨⟨e0.mod,lo.kind,rfl,rfl,Nat.le_refl _,fun x y c q1 q2=>?_,fun x hx=>?_,fun x c q=>(nomatch q),fun _=>hr.hd,Around.frames_deeper e0.frames,.inr ⟨rfl,rfl⟩,fun b z=>absurd z (noA b),fun b o q=>⟨(e0.bs b o q).1,delF_none (e0.bs b o q).2⟩,e0.bsz,fun b _ _=>noA b,fun b z=>absurd z (noA b),e0.funs,fun b hb=>delF_none (e0.frf b hb)⟩,
   rfl,e0.bare,Un.kept hk₁,⟨_,hns,fun i x v q1 q2 q3=>?_⟩,fun x c q=>?_,hok0.fresh (Nat.le_refl _),fun x c q=>?_,fun p hp=>absurd (show p∈([]:List (Addr × Obj)) from hp) (by simp),hok0.kept hk₁,?_⟩
  · obtain ⟨i,a1,a2⟩:=cof x c q1
    obtain ⟨j,b1,b2⟩:=cof y c q2
    have:i = j:=by
     obtain ⟨h1,h2⟩:=List.getElem?_eq_some_iff.mp a2
     obtain ⟨h3,h4⟩:=List.getElem?_eq_some_iff.mp b2
     exact (List.getElem_inj cnd).mp (h2.trans h4.symm)
    subst this
    rw [a1] at b1
    cases b1
    rfl
  · have hx:L.scope.names.lookup x = some .cell∨L.scope.names.lookup x = some .free:=hx
    rcases hx with hx | hx
    · exact absurd rfl (lo.nocell _ (PySem.mem_of_lookup hx))
    · have hm:=lo.frees _ (PySem.mem_of_lookup hx) rfl
      obtain ⟨j,hj,ej⟩:=List.mem_iff_getElem.mp hm
      dsimp only at ej
      exact ⟨cells[j]'(by omega),clk j x _ (by rw [← ej];exact List.getElem?_eq_getElem hj) (List.getElem?_eq_getElem (by omega))⟩
  · have hi:i < (vs++cs.map flV).length:=by
     unfold L2.start at q2
     by_cases hi:i < (vs++cs.map flV).length
     · exact hi
     · rw [List.getElem?_append_right (by rw [List.length_map];omega),List.getElem?_replicate] at q2
       split at q2<;>cases q2
    have hv':(vs++cs.map flV)[i]? = some v:=by
     unfold L2.start at q2
     rw [List.getElem?_append_left (by rw [List.length_map];exact hi),List.getElem?_map] at q2
     cases e:(vs++cs.map flV)[i]? with
     | none=>rw [e] at q2;cases q2
     | some a=>rw [e] at q2;cases q2;rfl
    have q1:(L.ps++L.caps)[i]? = some x:=q1
    by_cases hp:i < L.ps.length
    · rw [List.getElem?_append_left hp] at q1
      rw [List.getElem?_append_left (by omega)] at hv'
      obtain ⟨u,hu,ru⟩:=rv.get hv'
      refine ⟨u,ru,.inl ⟨lo.ploc x (List.mem_of_getElem? q1),?_⟩⟩
      exact key_lookup (by rw [List.map_reverse,zip_keys lus.symm];exact List.pairwise_reverse.mpr (ndp.imp fun z=>Ne.symm z)) (List.mem_reverse.mpr (zip_mem q1 hu))
    · rw [List.getElem?_append_right (by omega)] at q1
      rw [List.getElem?_append_right (by omega),List.getElem?_map,lvs] at hv'
      have hj:i - L.ps.length < L.caps.length:=(List.getElem?_eq_some_iff.mp q1).1
      have hc:cells[i - L.ps.length]? = some (cells[i - L.ps.length]'(by omega)):=List.getElem?_eq_getElem (by omega)
      obtain ⟨o,u,dd,x1,x2,x3,x4,x5⟩:=cin _ _ hc
      rw [x1] at hv'
      cases hv'
      exact ⟨u,x4,.inr ⟨.inr (lo.cfree x (List.mem_of_getElem? q1)),_,clk _ x _ q1 hc,o,hk₁ _ _ (hgo x2),x3⟩⟩
  · obtain ⟨j,a1,a2⟩:=cof x c q
    obtain ⟨o,u,dd,x1,x2,x3,x4,x5⟩:=cin _ _ a2
    exact ⟨_,o,hk₁ _ _ (hgo x2),x3⟩
  · obtain ⟨j,a1,a2⟩:=cof x c q
    obtain ⟨o,u,dd,x1,x2,x3,x4,x5⟩:=cin _ _ a2
    exact delF_in x5
  · unfold L2.start
    show _ = (L.ps++L.caps).length
    rw [List.length_append,List.length_map,List.length_replicate]
    have:(vs++cs.map flV).length = (L.ps++L.caps).length:=by rw [List.length_append,List.length_append,List.length_map];omega
    omega
 have rlc:∀ (cs':List D),(∀ dd∈cs',flat dd = true)→RelL K (delF H (cells.zip os)) F cs' (cs'.map flV):=by
  intro cs'
  induction cs' with
  | nil=>intro _;exact RelL.nil
  | cons x xs ih=>intro hh;exact RelL.cons (flat_self (hh x List.mem_cons_self)) (ih fun y hy=>hh y (List.mem_cons_of_mem _ hy))
 have hflat:∀ dd∈cs,flat dd = true:=fun dd hd'=>by
  obtain ⟨j,hj,ej⟩:=List.mem_iff_getElem.mp hd'
  obtain ⟨o,u,z1,z2,z3,z4⟩:=e4 j _ dd (List.getElem?_eq_getElem (by omega)) (by rw [← ej];exact List.getElem?_eq_getElem hj)
  exact z4
 have rl2:RelL K (delF H (cells.zip os)) F (ds++cs) (vs++cs.map flV):=RelL.append (relL_del fz0 ds vs lfl rl) (rlc cs hflat)
 have ok:=start_ok (N:=L.ps++L.caps) (fd.del fz0) tf (tabs_del tb fz0 isc) rl2 (by rw [List.length_append,List.length_append,List.length_map];omega)
 have pe:=hE a (.ref c') (L.caps.zip cells) A outer s (delF H (cells.zip os)) (hr.deeper _) [] _ _ _ (fun v H'=>∃ F',Ok K ⟨delF H (cells.zip os),fun b=>F b∧((∃ xs,delF H (cells.zip os) b = some (.lst xs))∨∃ φ,delF H (cells.zip os) b = some (.ext φ))⟩ F' (L2.start (L.ps++L.caps) (vs++cs.map flV)) H' δ'∧Rel K H' F' d v) I
  ⟨_,F,_,d,δ',ok,ev,fun v H' F' st sm ok' r=>⟨F',ok',by rw [np0] at r;exact r⟩⟩
 refine PySem.W.kla_codeExpr (wpAny_mono pe (fun u s' hp=>?_) fun e s' hp=>hp.elim)
 obtain ⟨v,H',J,rv',F',ok',r'⟩:=hp
 have un:=J.base
 have bz:∀ b o,(cells.zip os).lookup b = some o→s.heap.get? b = some o∧b∉frs outer:=fun b o q=>⟨hgo (fz0 b o q),fun z=>by have y:=fz0 b o q;rw [e0.frf b z] at y;cases y⟩
 have c0:Un0 H' s'.heap (cells.zip os):=fun b o q=>⟨un.free b o (bz b o q).1 (delF_in q) (by intro z;exact absurd (show b∈([]:List Addr) from z) (by simp)),un.keep b o (bz b o q).1 (delF_in q) (bz b o q).2 (by intro z;exact absurd (show b∈([]:List Addr) from z) (by simp))⟩
 have sim:Sim H (addF H' (cells.zip os)):=sim_add fz0 ok'.same
 refine ⟨v,addF H' (cells.zip os),J.os,J.bare,Un.add fz0 un c0,HOk.add J.hok c0,rv',post v _ sim (ok'.tabs.keep fun b o _ z=>c0.same b o z) ?_⟩
 exact Rel.free (fd.sim sim) d v lfd (Rel.step (G:=g0) ok'.fd (Step.of_same c0.same) d v r')
end PP
end
section
namespace PP
open PySem L2 PyProof.Rows
variable [Tbs]
set_option genInjectivity false in
structure Mkr (K:PySem.W.Frag) (cf:List (Str × List Str)) (gn:List Str) (fd:Fd) (st:Stmt) (fdd:FuncData) where
 f:Nat
 es:Es
 k:Nat
 caps:List Nat
 x:Str
 ps:List Str
 y:Expr
 ys:List Expr
 p:Pos
 lp:Pos
 pos:Pos
 rp:Pos
 L:Lam
 c:Addr
 P:Addr
 cells:Addr→List Addr
 body:fd.body = .cons (.retL f es k caps) .nil
 text:defBody st = [.Return (some (.Call (.Name x p) (y::(ys++[.Lambda L.params L.body L.scope lp])) [] pos)) rp]
 lam:Tbs.lams.lookup k = some L
 args:ckEs ⟨fd.ps++fd.loc,defScope st,cf,gn⟩ es (y::ys) = true
 npk:noPk es = true
 fn:cf[f]? = some (x,ps)
 gl:globIs ⟨fd.ps++fd.loc,defScope st,cf,gn⟩ x = true
 nd:L.caps.Nodup
 dft:∀ env,defaultsOf L.params env = ([],[])
 cl:∀ (l a:Addr) (cd:Value),closureFor L.scope (envOfC fd.name (defScope st) l a cd) = pure (L.caps.zip (cells l))
 cp:∀ (X:Cx) (l a:Addr) (cd:Value),X.N = fd.ps++fd.loc→X.env = envOfC fd.name (defScope st) l a cd→CapsOk X caps L.caps (cells l)
 code:fdd.code = .ref c
 hd:PySem.W.codeHdIn K c P = true
 tb:(P,L.qual)∈Tbs.ts
 un:∀ t∈Tbs.ts,t.1 = P→t.2 = L.qual
 ql:fd.name++".<locals>."++"<lambda>" = L.qual
structure Dn (K:PySem.W.Frag) (mg:Str→Option Value) (cf:List (Str × List Str)) (gn:List Str) (fd:Fd) (st:Stmt) (a:Addr) (fdd:FuncData):Prop where
 fn:Fun K fd.name fd.name st a fdd
 mg:mg fd.name = some (.ref a)
 sc:FnScope (fd.ps++fd.loc) fd.ps (defScope st)
 ck:ckSs ⟨fd.ps++fd.loc,defScope st,cf,gn⟩ fd.body (defBody st) = true∨Nonempty (Mkr K cf gn fd st fdd)
 bd:Binds K fdd fd.ps []
def allDn (K:PySem.W.Frag) (mg:Str→Option Value) (cf:List (Str × List Str)) (gn:List Str):List Fd→Prop
 | []=>True
 | fd::r=>(∃ st a fdd,Dn K mg cf gn fd st a fdd)∧allDn K mg cf gn r
theorem allDn_get {K:PySem.W.Frag} {mg:Str→Option Value} {cf:List (Str × List Str)} {gn:List Str}:∀ {G:List Fd} {i:Nat} {fd:Fd},allDn K mg cf gn G→G[i]? = some fd→∃ st a fdd,Dn K mg cf gn fd st a fdd
 | [],_,_,_,e=>by simp at e
 | f::r,0,fd,h,e=>by
   cases e
   exact h.1
 | f::r,i+1,fd,h,e=>allDn_get (i:=i) h.2 (by simpa using e)
def cfOf (G:List Fd):List (Str × List Str):=G.map fun fd=>(fd.name,fd.ps)
structure Ln (G Gd:List Fd) (gn:List Str) (k:Nat) (L:Lam):Prop where
 ok:LamOk L
 fd:∃ fd e,G[k]? = some fd∧fd.ps = L.ps++L.caps∧fd.loc = []∧fd.body = .cons (.ret e) .nil∧fd.hf = false∧isPk e = false∧ckE ⟨L.ps++L.caps,L.scope,cfOf Gd,gn⟩ e L.body = true
structure Top (K:PySem.W.Frag) (mg:Str→Option Value) (G Gd:List Fd) (gl:List D) (gn:List Str):Prop where
 fns:allDn K mg (cfOf Gd) gn Gd
 sub:∀ (i:Nat) (fd:Fd),Gd[i]? = some fd→G[i]? = some fd
 few:G.length≤own0
 lams:∀ (k:Nat) (L:Lam),Tbs.lams.lookup k = some L→Ln G Gd gn k L
 blt:∀ x,x∈bltNames→mg x = none
 glob:∀ (g:Nat) (x:Str) (d:D),gn[g]? = some x→gl[g]? = some d→∃ u v,mg x = some u∧RelV v u∧∀ H F,Rel K H F d v
 gsome:∀ (g:Nat) (x:Str),gn[g]? = some x→∃ d,gl[g]? = some d
theorem start_okF {K:PySem.W.Frag} {H:Hp} {F:Addr→Prop} {ds:List D} {vs:List V} {N:List Str} {k:Nat} {cs:List D} {a:Addr} (fd:FD F H) (tf:TF F) (tb:Tabs H) (r:RelL K H F ds vs) (fv:FnV H k cs a) (hl:vs.length+1≤N.length):Ok K ⟨H,fun b=>F b∧((∃ xs,H b = some (.lst xs))∨∃ φ,H b = some (.ext φ))⟩ F (L2.start N (vs++[.ref a])) H (initF N.length ds k cs):=by
 have hlen:=r.length
 have low:∀ (i:Nat) (s:Sl),(initF N.length ds k cs)[i]? = some s→s = .no∨(∃ d,ds[i]? = some d∧s = .val d)∨(i = ds.length∧s = .fnc k cs):=fun i s e=>by
  unfold initF at e
  by_cases hi:i < ds.length
  · rw [List.getElem?_append_left (by simpa using hi),List.getElem?_map,List.getElem?_eq_getElem hi] at e
    cases e
    exact .inr (.inl ⟨_,List.getElem?_eq_getElem hi,rfl⟩)
  · rw [List.getElem?_append_right (by simp;omega),List.length_map] at e
    cases q:i - ds.length with
    | zero =>
      rw [q] at e
      cases e
      exact .inr (.inr ⟨by omega,rfl⟩)
    | succ m =>
      rw [q,List.getElem?_cons_succ,List.getElem?_replicate] at e
      split at e
      · cases e;exact .inl rfl
      · cases e
 have at_:∀ (i:Nat) (v:V),(vs++[.ref a])[i]? = some v→(L2.start N (vs++[.ref a]))[i]? = some (some v):=fun i v e=>by
  unfold L2.start
  have hi:i < (vs++[V.ref a]).length:=(List.getElem?_eq_some_iff.mp e).1
  rw [List.getElem?_append_left (by rw [List.length_map];exact hi),List.getElem?_map,e]
  rfl
 refine ⟨Sim.refl H,fd,fun b z=>z.1,fun b z=>z.2,tf,tb,?_,fun i s e=>?_,fun i j es fs b e1=>?_⟩
 · unfold initF L2.start
   simp only [List.length_append,List.length_map,List.length_replicate,List.length_cons,List.length_nil]
   omega
 · rcases low i s e with rfl | ⟨d,e1,rfl⟩ | ⟨rfl,rfl⟩
   · trivial
   · obtain ⟨v,hv,rv⟩:=r.get e1
     exact ⟨v,at_ i v (by rw [List.getElem?_append_left (List.getElem?_eq_some_iff.mp hv).1];exact hv),rv⟩
   · exact ⟨a,at_ _ _ (by rw [← hlen,List.getElem?_append_right (Nat.le_refl _),Nat.sub_self];rfl),fv⟩
 · rcases low i _ e1 with z | ⟨d,_,z⟩ | ⟨_,z⟩<;>cases z
theorem okC {P:Program} {w:World} {K:PySem.W.Frag} {mg:Str→Option Value} {base:Heap} {x qual:Str} {st:Stmt} {f:Addr} {fd:FuncData} {N ps:List Str} {k:Nat} {sp:Sp} (F:Fun K x qual st f fd) (S:FnScope N ps (defScope st)) (len:∀ vs H Q E,sp vs H Q E→vs.length = ps.length)
 (hbody:∀ (A:Around) (outer:List Env) (s:Shared) (H:Hp) (vs:List V) (Q:VK) (E:XK),Room k (A.deeper (envOfC qual (defScope st) s.heap.objs.size f fd.code))→sp vs H Q E →
   ∃ t,PSs (cxOf CX0 P w K mg base N qual (defScope st) f fd.code A outer s H E).nox (defBody st) t∧t { nx:=fun _ H'=>Q .non H',rt:=Q } (L2.start N vs) H):FnOk P w K mg base CX0 (k+1) f fd ps sp:=by
 obtain ⟨oc,od,kV,doc,pm,an,cdv,ct,osl,rfl,lk,hcd⟩:=F.ex
 refine fn_of lk hcd S len fun A outer s H vs Q E hr hsp=>?_
 obtain ⟨t,h,q⟩:=hbody A outer s H vs Q E hr hsp
 exact ⟨t,h.nox,q⟩
section
variable {P:Program} {w:World} {K:PySem.W.Frag} {mg:Str→Option Value} {base:Heap} {G Gd:List Fd} {gl:List D} {gn:List Str}
def BM (mg:Str→Option Value) (base:Heap):Prop:=∃ bm ob,mg "__builtins__" = some (.ref bm)∧bm≠builtinsNs∧base.get? bm = some ob∧ob.cls = .type "module"∧ob.dict = some builtinsNs∧ob.data = .plain
theorem run_inv {n i:Nat} {fd:Fd} (e:G[i]? = some fd) {ds:List D} {d:D} (h:run G gl (n+1) i ds = some d):ds.length = fd.ps.length∧∃ δ,entry fd.hf (fd.ps++fd.loc).length ds = some δ∧outD (evSs ⟨run G gl n,gl,hfs G⟩ fd.body δ) = some d:=by
 unfold run at h
 rw [e] at h
 dsimp only at h
 split at h
 · cases q:entry fd.hf (fd.ps++fd.loc).length ds with
   | none=>rw [q] at h;cases h
   | some δ=>rw [q] at h;exact ⟨‹_›,δ,rfl,h⟩
 · cases h
theorem own_inv {n i:Nat} {fd:Fd} (few:G.length≤own0) (e:G[i]? = some fd) {ds:List D} {d:D} (h:run G gl (n+1) (i+own0) ds = some d):ds.length = fd.ps.length∧∃ δ,entry fd.hf (fd.ps++fd.loc).length ds = some δ∧ownD (evSs ⟨run G gl n,gl,hfs G⟩ fd.body δ) = some d:=by
 unfold run at h
 rw [List.getElem?_eq_none (by omega)] at h
 dsimp only at h
 rw [Nat.add_sub_cancel,e] at h
 dsimp only at h
 split at h
 · cases q:entry fd.hf (fd.ps++fd.loc).length ds with
   | none=>rw [q] at h;cases h
   | some δ=>rw [q] at h;exact ⟨(‹_∧_›).2,δ,rfl,h⟩
 · cases h
theorem nofn_last {H:Hp} {F:Addr→Prop} {ds:List D} {vs:List V} (r:RelL K H F ds vs) {k:Nat} {cs:List D} (e:ds.getLast? = some (.fn k cs)):False:=by
 rw [List.getLast?_eq_getElem?] at e
 obtain ⟨v,_,rv⟩:=r.get e
 unfold Rel at rv
 exact rv
theorem all_ok (T:Top K mg G Gd gl gn) (hK:K.In base) (hB:BM mg base):∀ n:Nat,(∀ (i:Nat) (fd:Fd) (st:Stmt) (a:Addr) (fdd:FuncData),Gd[i]? = some fd→Dn K mg (cfOf Gd) gn fd st a fdd →
 FnOk P w K mg base CX0 n a fdd fd.ps (spF K (run G gl n i))∧(fd.hf = true→FnOk P w K mg base CX0 n a fdd fd.ps (spFF K (run G gl n i)))∧FnOk P w K mg base CX0 n a fdd fd.ps (spO K (run G gl n (i+own0)))) ∧
 ∀ (k:Nat) (L:Lam),Tbs.lams.lookup k = some L→LmOk P w K mg base n k (run G gl n k)
 | 0=>by
   have z:∀ i ds d,run G gl 0 i ds≠some d:=fun i ds d h=>by unfold run at h;cases h
   refine ⟨fun i fd st a fdd e _=>⟨⟨fun vs H Q E h=>?_,fun A outer s H args us vs Q E _ _ _ _ h=>?_⟩,fun _=>⟨fun vs H Q E h=>?_,fun A outer s H args us vs Q E _ _ _ _ h=>?_⟩,⟨fun vs H Q E h=>?_,fun A outer s H args us vs Q E _ _ _ _ h=>?_⟩⟩,fun k L _ A outer s H a us vs cs Q _ _ _ _ h=>?_⟩
   · obtain ⟨F,ds,d,_,_,_,_,h1,_⟩:=h;exact (z _ _ _ h1).elim
   · obtain ⟨F,ds,d,_,_,_,_,h1,_⟩:=h;exact (z _ _ _ h1).elim
   · obtain ⟨F,ds,ws,k,cs,a,d,_,_,_,_,_,_,h1,_⟩:=h;exact (z _ _ _ h1).elim
   · obtain ⟨F,ds,ws,k,cs,a,d,_,_,_,_,_,_,h1,_⟩:=h;exact (z _ _ _ h1).elim
   · obtain ⟨F,ds,d,_,_,_,_,h1,_⟩:=h;exact (z _ _ _ h1).elim
   · obtain ⟨F,ds,d,_,_,_,_,h1,_⟩:=h;exact (z _ _ _ h1).elim
   · obtain ⟨F,ds,d,_,_,_,_,_,h1,_⟩:=h;exact (z _ _ _ h1).elim
 | n+1=>by
   obtain ⟨ih,il⟩:=all_ok T hK hB n
   have fns:∀ (f:Nat) (x:Str) (ps:List Str),(cfOf Gd)[f]? = some (x,ps)→∃ gd st a fdd,gd.name = x∧gd.ps = ps∧Gd[f]? = some gd∧Dn K mg (cfOf Gd) gn gd st a fdd:=fun f x ps hf=>by
    have hf':(Gd.map fun fd=>(fd.name,fd.ps))[f]? = some (x,ps):=hf
    rw [List.getElem?_map,Option.map_eq_some_iff] at hf'
    obtain ⟨gd,eg,ep⟩:=hf'
    cases ep
    obtain ⟨st',a',fdd',D'⟩:=allDn_get T.fns eg
    exact ⟨gd,st',a',fdd',rfl,rfl,eg,D'⟩
   have fn1:∀ (f:Nat) (x:Str) (ps:List Str),(cfOf Gd)[f]? = some (x,ps)→∃ a fd,mg x = some (.ref a)∧PySem.W.keepIn K (.ref a) = true∧Binds K fd ps []∧FnOk P w K mg base CX0 n a fd ps (spF K (run G gl n f)):=fun f x ps hf=>by
    obtain ⟨gd,st,a,fdd,rfl,rfl,eg,D'⟩:=fns f x ps hf
    exact ⟨a,fdd,D'.mg,D'.fn.kp,D'.bd,(ih f gd st a fdd eg D').1⟩
   have fn2:∀ (f:Nat) (x:Str) (ps:List Str),(cfOf Gd)[f]? = some (x,ps)→hfs G f = true→∃ a fd,mg x = some (.ref a)∧PySem.W.keepIn K (.ref a) = true∧Binds K fd ps []∧FnOk P w K mg base CX0 n a fd ps (spFF K (run G gl n f)):=fun f x ps hf hh=>by
    obtain ⟨gd,st,a,fdd,rfl,rfl,eg,D'⟩:=fns f x ps hf
    refine ⟨a,fdd,D'.mg,D'.fn.kp,D'.bd,(ih f gd st a fdd eg D').2.1 ?_⟩
    unfold hfs at hh
    rw [T.sub f gd eg] at hh
    exact hh
   have fn3:∀ (f:Nat) (x:Str) (ps:List Str),(cfOf Gd)[f]? = some (x,ps)→∃ a fd,mg x = some (.ref a)∧PySem.W.keepIn K (.ref a) = true∧Binds K fd ps []∧FnOk P w K mg base CX0 n a fd ps (spO K (run G gl n (f+own0))):=fun f x ps hf=>by
    obtain ⟨gd,st,a,fdd,rfl,rfl,eg,D'⟩:=fns f x ps hf
    exact ⟨a,fdd,D'.mg,D'.fn.kp,D'.bd,(ih f gd st a fdd eg D').2.2⟩
   have lm1:∀ (m:Nat) (cs:List D) (H:Hp) (a:Addr),FnV H m cs a→LmOk P w K mg base n m (run G gl n m):=fun m cs H a fv=>by
    obtain ⟨L,_,_,_,_,_,_,_,hL,_⟩:=fv
    exact il m L hL
   refine ⟨fun i fd st a fdd e Dd=>?_,fun k L hL=>?_⟩
   · have eG:=T.sub i fd e
     have C:∀ (A:Around) (outer:List Env) (s:Shared) (H:Hp) (E:XK),Room n (A.deeper (envOfC fd.name (defScope st) s.heap.objs.size a fdd.code)) →
      Cok (cxOf CX0 P w K mg base (fd.ps++fd.loc) fd.name (defScope st) a fdd.code A outer s H E).nox ⟨fd.ps++fd.loc,defScope st,cfOf Gd,gn⟩ ⟨run G gl n,gl,hfs G⟩ n:=fun A outer s H E hr =>
      ⟨rfl,Dd.sc.nd,fun x hx=>hx,fun x hx=>hx,fun x hx=>⟨hx,.inl rfl⟩,fun x hx=>hx,rfl,rfl,hr,fn1,fn2,fn3,lm1,T.blt,T.glob,T.gsome⟩
     have B:∀ (A:Around) (outer:List Env) (s:Shared) (H:Hp) (E:XK),Room n (A.deeper (envOfC fd.name (defScope st) s.heap.objs.size a fdd.code)) →
      PSs (cxOf CX0 P w K mg base (fd.ps++fd.loc) fd.name (defScope st) a fdd.code A outer s H E).nox (defBody st) (tS K (evSs ⟨run G gl n,gl,hfs G⟩ fd.body)):=fun A outer s H E hr=>by
      rcases Dd.ck with ck | M'
      · have hblk:(cxOf CX0 P w K mg base (fd.ps++fd.loc) fd.name (defScope st) a fdd.code A outer s H E).nox.env.blockKind = .function:=by
         unfold Env.blockKind
         show (if (defScope st).kind.isAnnotationScope then ScopeKind.function else (defScope st).kind) = _
         rw [Dd.sc.kind]
         rfl
        exact sndSs (cx:=⟨run G gl n,gl,hfs G⟩) (C A outer s H E hr) rfl hblk fd.body (defBody st) ck
      · cases M' with
        | intro M =>
        rw [M.text,M.body]
        have args:=M.args
        have Cc:=C A outer s H E hr
        refine sndS_cons (snd_retL (P:=M.P) (cells:=M.cells s.heap.objs.size) Cc M.lam ⟨⟨M.c,M.code,PySem.W.codeHd_of_K hK M.hd⟩,M.ql,M.tb,M.un,hB⟩ (M.cl _ _ _) (M.dft _) (M.cp _ _ _ _ rfl rfl) M.nd (fun _=>rfl) M.npk M.fn M.gl (fun z tz hz hs=>sndEsL M.es _ _ (M.y::M.ys) z tz Cc args (noPk_ok M.npk) hz hs) (fun z=>?_) fun z hz=>?_) sndS_nil
        · obtain ⟨_,_,_,a1,_⟩:=ckEs_cons args
          exact head_star (ck_head a1) _ _
        · obtain ⟨_,_,_,_,a2⟩:=ckEs_cons args
          exact star_anyL hz a2
     have fin:∀ {F:Addr→Prop} {H:Hp} {σ:L2.St} {δ:Loc} {d:D} {Q:VK} {E:XK} (hfd:FD F H) (htf:TF F) (ok:Ok K ⟨H,fun b=>F b∧((∃ xs,H b = some (.lst xs))∨∃ φ,H b = some (.ext φ))⟩ F σ H δ) (h2:outD (evSs ⟨run G gl n,gl,hfs G⟩ fd.body δ) = some d) (q:∀ v H',Sim H H'→Tabs H'→Rel K H' F d v→Q v H'),
      tS K (evSs ⟨run G gl n,gl,hfs G⟩ fd.body) { nx:=fun _ H'=>Q .non H',rt:=Q } σ H:=fun {F H σ δ d Q E} hfd htf ok h2 q=>by
      cases eo:evSs ⟨run G gl n,gl,hfs G⟩ fd.body δ with
      | none=>rw [eo] at h2;cases h2
      | some o =>
        rw [eo] at h2
        refine ⟨⟨H,fun b=>F b∧((∃ xs,H b = some (.lst xs))∨∃ φ,H b = some (.ext φ))⟩,F,_,o,ok,eo,?_⟩
        cases o with
        | nx δ =>
          cases h2
          exact fun σ' H' F' st' ok'=>q .non H' ok'.same ok'.tabs rel_non
        | rt d' δ =>
          cases h2
          refine fun v σ' H' F' st' ok' r'=>q v H' ok'.same ok'.tabs (Rel.step (G:=g0) ok'.fd ⟨fun _ _ _ e _=>e,fun b z=>?_,fun _ _ r _ _=>r.elim,fun _ ps e=>⟨ps,e⟩⟩ _ v r')
          rcases hfd b z with ⟨xs,e⟩ | ⟨ps,e,t,ht,eb⟩ | ⟨φ,e⟩
          · exact .inl (ok'.rf b ⟨z,.inl ⟨xs,e⟩⟩)
          · rw [← eb];exact .inl (ok'.tf t ht)
          · exact .inl (ok'.rf b ⟨z,.inr ⟨φ,e⟩⟩)
        | ro ds' δ =>
          cases h2
          refine fun a xs σ' H' F' st' ok' f1 f2 hs r'=>q _ H' ok'.same ok'.tabs ?_
          have gr:∀ b,F b→F' b:=fun b z=>by
           rcases hfd b z with ⟨xs,e⟩ | ⟨ps,e,t,ht,eb⟩ | ⟨φ,e⟩
           · exact ok'.rf b ⟨z,.inl ⟨xs,e⟩⟩
           · rw [← eb];exact ok'.tf t ht
           · exact ok'.rf b ⟨z,.inr ⟨φ,e⟩⟩
          unfold Rel
          refine ⟨a,xs,rfl,.inl ⟨.inl hs,not_F hfd f2.1⟩,RelL.step (G:=g0) ok'.fd ⟨fun _ _ _ e _=>e,fun b z=>.inl (gr b z),fun _ _ r _ _=>r.elim,fun _ ps e=>⟨ps,e⟩⟩ _ xs r'⟩
        | bk δ=>cases h2
        | ct δ=>cases h2
     have fiO:∀ {F:Addr→Prop} {H:Hp} {σ:L2.St} {δ:Loc} {zs:List D} {Q:VK} (hfd:FD F H) (htf:TF F) (ok:Ok K ⟨H,fun b=>F b∧((∃ xs,H b = some (.lst xs))∨∃ φ,H b = some (.ext φ))⟩ F σ H δ) (h2:ownD (evSs ⟨run G gl n,gl,hfs G⟩ fd.body δ) = some (.lst zs)) (q:∀ a xs H',Sim H H'→Tabs H'→H a = none→H' a = some (.lst xs)→RelL K H' (fun b=>F b∨b = a) zs xs→Q (.ref a) H'),
      tS K (evSs ⟨run G gl n,gl,hfs G⟩ fd.body) { nx:=fun _ H'=>Q .non H',rt:=Q } σ H:=fun {F H σ δ zs Q} hfd htf ok h2 q=>by
      cases eo:evSs ⟨run G gl n,gl,hfs G⟩ fd.body δ with
      | none=>rw [eo] at h2;cases h2
      | some o =>
        rw [eo] at h2
        refine ⟨⟨H,fun b=>F b∧((∃ xs,H b = some (.lst xs))∨∃ φ,H b = some (.ext φ))⟩,F,_,o,ok,eo,?_⟩
        cases o with
        | ro ds' δ =>
          cases h2
          refine fun a xs σ' H' F' st' ok' f1 f2 hs r'=>q a xs H' ok'.same ok'.tabs f2.1 hs ?_
          have gr:∀ b,(F b∨b = a)→F' b:=fun b z=>by
           rcases z with z | z
           · rcases hfd b z with ⟨xs,e⟩ | ⟨ps,e,t,ht,eb⟩ | ⟨φ,e⟩
             · exact ok'.rf b ⟨z,.inl ⟨xs,e⟩⟩
             · rw [← eb];exact ok'.tf t ht
             · exact ok'.rf b ⟨z,.inr ⟨φ,e⟩⟩
           · rw [z];exact f1
          exact RelL.step (G:=g0) ok'.fd ⟨fun _ _ _ e _=>e,fun b z=>.inl (gr b z),fun _ _ r _ _=>r.elim,fun _ ps e=>⟨ps,e⟩⟩ _ xs r'
        | _=>cases h2
     refine ⟨okC Dd.fn Dd.sc (fun vs H Q E h=>?_) fun A outer s H vs Q E hr h=>?_,fun hh=>okC Dd.fn Dd.sc (fun vs H Q E h=>?_) fun A outer s H vs Q E hr h=>?_,okC Dd.fn Dd.sc (fun vs H Q E h=>?_) fun A outer s H vs Q E hr h=>?_⟩
     · obtain ⟨F,ds,d,_,_,_,r,h1,_⟩:=h
       rw [r.length,(run_inv eG h1).1]
     · obtain ⟨F,ds,d,hfd,htf,htb,r,h1,q⟩:=h
       obtain ⟨hl,δ,ed,h2⟩:=run_inv eG h1
       have hlen:=r.length
       refine ⟨_,B A outer s H E hr,?_⟩
       unfold entry at ed
       split at ed
       · cases ed
         exact fin (E:=E) hfd htf (start_ok hfd htf htb r (by rw [hlen,hl,List.length_append];omega)) h2 q
       · split at ed
         · rename_i eq
           exact (nofn_last r eq).elim
         · cases ed
     · obtain ⟨F,ds,ws,k,cs,b,d,_,_,_,rfl,r,_,h1,_⟩:=h
       have:=(run_inv eG h1).1
       rw [List.length_append] at this ⊢
       rw [r.length];exact this
     · obtain ⟨F,ds,ws,k,cs,b,d,hfd,htf,htb,rfl,r,fv,h1,q⟩:=h
       obtain ⟨hl,δ,ed,h2⟩:=run_inv eG h1
       have hlen:=r.length
       refine ⟨_,B A outer s H E hr,?_⟩
       rw [hh] at ed
       unfold entry at ed
       simp only [List.getLast?_concat,List.dropLast_concat] at ed
       cases ed
       rw [List.length_append] at hl
       exact fin (E:=E) hfd htf (start_okF hfd htf htb r fv (by rw [hlen,List.length_append];simp at hl;omega)) h2 q
     · obtain ⟨F,ds,zs,_,_,_,r,h1,_⟩:=h
       rw [r.length,(own_inv T.few eG h1).1]
     · obtain ⟨F,ds,zs,hfd,htf,htb,r,h1,q⟩:=h
       obtain ⟨hl,δ,ed,h2⟩:=own_inv T.few eG h1
       have hlen:=r.length
       refine ⟨_,B A outer s H E hr,?_⟩
       unfold entry at ed
       split at ed
       · cases ed
         exact fiO hfd htf (start_ok hfd htf htb r (by rw [hlen,hl,List.length_append];omega)) h2 q
       · split at ed
         · rename_i eq
           exact (nofn_last r eq).elim
         · cases ed
   · obtain ⟨lo,fd,e,eG,ep,el,eb,eh,pk,ck⟩:=T.lams k L hL
     refine lam_ok (cx:=⟨run G gl n,gl,hfs G⟩) (e:=e) hL lo (fun a cd cl A outer s H hr=>?_) pk fun ds d h1=>?_
     · refine sndE e (cxL P w K mg base L a cd cl A outer s H) ⟨L.ps++L.caps,L.scope,cfOf Gd,gn⟩ L.body (k:=n) ⟨rfl,lo.nd,fun x hx=>hx,fun x hx=>hx,fun x hx=>?_,fun x hx=>hx,rfl,rfl,hr,fn1,fn2,fn3,lm1,T.blt,T.glob,T.gsome⟩ ck
       have:L.scope.names.lookup x = some .local:=by
        rcases hx with hx | hx
        · exact hx
        · exact absurd rfl (lo.nocell _ (PySem.mem_of_lookup hx))
       exact ⟨.inl this,.inr this⟩
     · obtain ⟨hl,δ,ed,h2⟩:=run_inv eG h1
       rw [eh,ep,el,List.append_nil] at ed
       rw [ep] at hl
       cases ed
       rw [eb] at h2
       refine ⟨hl,?_⟩
       simp only [evSs,evS,Option.bind_eq_bind] at h2
       cases q:evE ⟨run G gl n,gl,hfs G⟩ e (init (L.ps++L.caps).length ds) with
       | none=>rw [q] at h2;cases h2
       | some r =>
         rw [q] at h2
         cases h2
         exact ⟨r.2,rfl⟩
end
end PP
end
section
namespace PP
open PySem L2 PyProof.Rows
variable [Tbs]
def rxs (st:Stmt):List Expr:=match defBody st with
 | [.Return (some (.Call _ xs _ _)) _]=>xs
 | _=>[]
def rps (st:Stmt):Pos × Pos × Pos:=match defBody st with
 | [.Return (some (.Call (.Name _ p) _ _ q)) r]=>(p,q,r)
 | _=>(⟨0,0,0,0⟩,⟨0,0,0,0⟩,⟨0,0,0,0⟩)
def rlm (st:Stmt):Expr:=(rxs st).getLastD (.Constant .none 0 ⟨0,0,0,0⟩)
def lamA:Expr→Arguments
 | .Lambda a _ _ _=>a
 | _=>⟨[],[],none,[],[],none,[]⟩
def lamB:Expr→Expr
 | .Lambda _ b _ _=>b
 | x=>x
def lamS:Expr→Scope
 | .Lambda _ _ s _=>s
 | _=>{ kind:=.function,names:=[],isGenerator:=false,isCoroutine:=false,more:=[] }
def lamP:Expr→Pos
 | .Lambda _ _ _ p=>p
 | _=>⟨0,0,0,0⟩
def hS (a:Addr) (o:Option HO):Hp:=fun b=>if b = a∧o.isSome = true then o else if b∈Tbs.ts.map (·.1) then some (.tbl #[]) else none
theorem hS_inv {a b:Addr} {o:Option HO} {u:HO} (e:hS a o b = some u):(b = a∧o = some u)∨(b∈Tbs.ts.map (·.1)∧u = .tbl #[]):=by
 unfold hS at e
 split at e
 · rename_i h;exact .inl ⟨h.1,e⟩
 · split at e
   · cases e;exact .inr ⟨‹_›,rfl⟩
   · cases e
theorem law_run {P:Program} {w:World} {K:PySem.W.Frag} {mg mb:Str→Option Value} {fa a:Addr} {fd:FuncData} {x:Str} {f:List D→Option D} {s₁:Shared} {vs:List Value} {ns:List Int}
 (KX:K.In s₁.heap) (hns:s₁.heap.Ns mainGlobals mg) (hb:s₁.heap.Ns builtinsNs mb) (hbb:∀ x:Str,x≠"__name__"→mb x = bootBuiltins x) (hlim:s₁.heap.NoLimit) (hg:s₁.gens = #[]) (hbm:BM mg s₁.heap)
 (ha:s₁.heap.get? a = some { cls:=.type "list",data:=.seq vs.toArray }) (hi:IntsAre vs ns) (hl:ns.length≤sizeLine) (hr:Room 200 callerA)
 (ht:∀ t∈Tbs.ts,s₁.heap.get? t.1 = some (PySem.W.tabObj #[])∧K.lookup t.1 = none∧isCodeTable s₁.heap t.1)
 (F:∀ base:Heap,K.In base→BM mg base→FnOk P w K mg base CX0 200 fa fd [x] (spF K f)) (hbind:∀ (s:Shared) (u:Value),BindsTo s fd ⟨[u],[]⟩ [(x,u)])
 (hf:f [.lst (ns.map .int)] = some (.bl true)) :
 codeAny (model P w) callerA (.call (.ref fa) ⟨[.ref a],[]⟩) (fun r s'=>r = .ok (.ret (.bool true))∧OldK s₁.heap s'.heap∧s'.os = s₁.os∧AllBare s'.gens) s₁:=by
 have rv:=vals_ints hi
 have lenV:=hi.length
 have htm:∀ b,b∈Tbs.ts.map (·.1)→s₁.heap.get? b = some (PySem.W.tabObj #[])∧K.lookup b = none∧isCodeTable s₁.heap b:=fun b hb=>by
  obtain ⟨t,h1,h2⟩:=List.mem_map.mp hb
  rw [← h2];exact ht t h1
 have aT:a∉Tbs.ts.map (·.1):=fun z=>by
  have:=(htm a z).1
  rw [ha] at this
  cases this
 have core:∀ o:Option HO,(∀ u,o = some u→∃ xs,u = .frz { cls:=.type "list",data:=.seq vs.toArray } (.lst xs))→HOk P w (hS a o) s₁.heap→(o≠none→K.lookup a = none)→Rel K (hS a o) (fun b=>b∈Tbs.ts.map (·.1)) (.lst (ns.map .int)) (.ref a) →
  codeAny (model P w) callerA (.call (.ref fa) ⟨[.ref a],[]⟩) (fun r s'=>r = .ok (.ret (.bool true))∧OldK s₁.heap s'.heap∧s'.os = s₁.os∧AllBare s'.gens) s₁:=by
  intro o hO hok hK hR
  have base_of:∀ {b:Addr} {x:Obj},s₁.heap.get? b = some x→hS a o b = none→(hidT s₁.heap (hS a o)).get? b = some x:=fun e n=>hidT_get e n
  have noA:∀ {b:Addr} {x:Obj},s₁.heap.get? b = some x→(∀ its n,x.data≠.seq its n)→(∀ vs,x.data≠.fields vs)→hS a o b = none:=fun {b x} e d1 d2=>by
   cases q:hS a o b with
   | none=>rfl
   | some u =>
     rcases hS_inv q with ⟨rfl,_⟩ | ⟨z,_⟩
     · rw [ha] at e;cases e;exact absurd rfl (d1 _ _)
     · rw [(htm b z).1] at e;cases e;exact absurd rfl (d2 _)
  have nsK:∀ {b:Addr} {m:Str→Option Value},s₁.heap.Ns b m→(hidT s₁.heap (hS a o)).Ns b m:=fun {b m} ⟨x,es,ep,e,d,r⟩=>⟨x,es,ep,base_of e (noA e (fun _ _ z=>by rw [d] at z;cases z) fun _ z=>by rw [d] at z;cases z),d,r⟩
  have hKb:K.In (hidT s₁.heap (hS a o)):=fun b x e=>base_of (KX b x e) (by
   cases q:hS a o b with
   | none=>rfl
   | some u =>
     rcases hS_inv q with ⟨rfl,z⟩ | ⟨z,_⟩
     · rw [hK (by rw [z];simp)] at e;cases e
     · rw [(htm b z).2.1] at e;cases e)
  have hM:Mod K mg (hidT s₁.heap (hS a o)):=⟨hKb,nsK hns,⟨mb,nsK hb,hbb⟩,let ⟨mc,h1,h2⟩:=hlim;⟨mc,nsK h1,h2⟩⟩
  have hB:BM mg (hidT s₁.heap (hS a o)):=by
   obtain ⟨bm,ob,b1,b2,b3,b4,b5,b6⟩:=hbm
   exact ⟨bm,ob,b1,b2,base_of b3 (noA b3 (fun _ _ z=>by rw [b6] at z;cases z) fun _ z=>by rw [b6] at z;cases z),b4,b5,b6⟩
  have e0:Env0 P w K mg (hidT s₁.heap (hS a o)) callerA [] s₁ (hS a o):=⟨rfl,hM,fun b x e=>of_hidT e,Nat.le_of_eq (hidT_size _ _),trivial,fun b hb=>absurd (show b∈([]:List Addr) from hb) (by simp),hok,.of_eq hg⟩
  have atT:∀ b,b∈Tbs.ts.map (·.1)→hS a o b = some (.tbl #[]):=fun b z=>by
   unfold hS
   rw [if_neg (fun y=>aT (by rw [← y.1];exact z)),if_pos z]
  have sp:spF K f [.ref a] (hS a o) (fun v _=>v = .bl true) E0:=⟨fun b=>b∈Tbs.ts.map (·.1),[.lst (ns.map .int)],.bl true,fun b z=>by
   obtain ⟨t,h1,h2⟩:=List.mem_map.mp z
   exact .inr (.inl ⟨#[],atT b z,t,h1,h2⟩),fun t h=>List.mem_map.mpr ⟨t,h,rfl⟩,fun t h=>⟨#[],atT _ (List.mem_map.mpr ⟨t,h,rfl⟩),trivial,fun pos cv e=>by cases e⟩,RelL.one hR,hf,fun v H' _ _ r=>by unfold Rel at r;exact r⟩
  refine codeAny_mono ((F _ hKb hB).run callerA [] s₁ (hS a o) ⟨[.ref a],[]⟩ [.ref a] [.ref a] _ _ hr e0 (hbind s₁ (.ref a)) (.cons rfl .nil) sp) fun r s' h=>?_
  cases r with
  | error e=>exact False.elim h
  | ok fl =>
    cases fl with
    | next=>exact False.elim h
    | brk=>exact False.elim h
    | cont=>exact False.elim h
    | ret u =>
      obtain ⟨v,H',os,bare,un,hok',r',q⟩:=h
      have q':v = .bl true:=q
      subst q'
      obtain rfl:u = Value.bool true:=r'
      refine ⟨rfl,⟨fun b x e=>?_,fun b x e=>un.there b x e (by simp)⟩,os,bare⟩
      cases q:hS a o b with
      | none=>exact .inl (un.keep b x e q (by intro z;exact absurd (show b∈([]:List Addr) from z) (by simp)) (by simp))
      | some u =>
        rcases hS_inv q with ⟨_,z⟩ | ⟨z,rfl⟩
        · obtain ⟨xs,rfl⟩:=hO u z
          have z2:=un.frzs b _ _ q
          obtain ⟨e1,_⟩:=hok b _ q
          obtain ⟨e2,_⟩:=hok' b _ z2
          rw [e] at e1;cases e1
          exact .inl e2
        · obtain ⟨more,y⟩:=un.tbls b _ q
          have e2:s'.heap.get? b = some { cls:=.none,data:=.fields (#[]++more) }:=hok' b _ y
          have e1:=(htm b z).1
          rw [e] at e1;cases e1
          exact .inr (.inl ⟨(htm b z).2.2,rfl,#[],more,rfl,e2⟩)
 have rl:∀ (H:Hp) (F:Addr→Prop) (ms:List Int),RelL K H F (ms.map .int) (ms.map V.int):=by
  intro H F ms
  induction ms with
  | nil=>exact RelL.nil
  | cons m ms ih=>exact RelL.cons (rel_int m) ih
 have hok1:∀ o:Option HO,(∀ u,o = some u→ObjOk P w (hS a o) s₁.heap a u)→HOk P w (hS a o) s₁.heap:=fun o ho b u e=>by
  rcases hS_inv e with ⟨rfl,z⟩ | ⟨z,rfl⟩
  · exact ho u z
  · exact (htm b z).1
 cases hk:K.lookup a with
 | some x =>
   have e:=KX a x hk
   rw [ha] at e
   cases e
   refine core none (fun u z=>by cases z) (hok1 none fun u z=>by cases z) (fun z=>absurd rfl z) ?_
   unfold Rel
   exact ⟨a,ns.map V.int,rfl,.inr ⟨vs.toArray,_,hk,by rw [List.size_toArray,lenV];exact hl,by simpa using rv⟩,rl _ _ ns⟩
 | none =>
   refine core (some (.frz { cls:=.type "list",data:=.seq vs.toArray } (.lst (ns.map V.int)))) (fun u z=>⟨_,(Option.some.inj z).symm⟩) (hok1 _ fun u z=>?_) (fun _=>hk) ?_
   · cases z
     exact ⟨ha,by rw [List.length_map];exact hl,vs,_,rv,ha⟩
   · unfold Rel
     refine ⟨a,ns.map V.int,rfl,.inl ⟨.inr ⟨{ cls:=.type "list",data:=.seq vs.toArray },?_⟩,aT⟩,rl _ _ ns⟩
     unfold hS
     rw [if_pos ⟨rfl,rfl⟩]
theorem walk_run {l:PySem.W.OpenLaw} {q:Program} {loose:List Str} {XP:(Str→Option Value)→Heap→Prop} {YP:World→Heap→Prop} {d:DefRec} {K:Params→PySem.W.Frag} {G Gd:List Fd} {gl:List D} {gn:List Str} {i:Nat} {fd:Fd} {x:Str}
 (main:∀ ns:List Int,ns.length≤63→run G gl 200 i [.lst (ns.map .int)] = some (.bl true)) (hi:Gd[i]? = some fd) (hp:fd.ps = [x])
 (hn:l.most = some 63) (hdf:d.params.defaults = []) (hY:∀ (w:World) (h:Heap),YP w h→(K w.params).In h∧∀ t∈Tbs.ts,h.get? t.1 = some (PySem.W.tabObj #[]))
 (F:∀ (w:World) (mg:Str→Option Value) (fa:Addr) (h:Heap),(K w.params).In h→h.Ns mainGlobals mg→mg d.name = some (.ref fa) →
   ∃ (st:Stmt) (fdd:FuncData),(∀ (s:Shared) (u:Value),BindsTo s fdd ⟨[u],[]⟩ [(x,u)])∧Top (K w.params) mg G Gd gl gn∧Dn (K w.params) mg (cfOf Gd) gn fd st fa fdd∧∀ t∈Tbs.ts,(K w.params).lookup t.1 = none∧∃ c,PySem.W.codeHdIn (K w.params) c t.1 = true) :
 PySem.W.WalkO q loose XP YP l.row.toRowW d [] (fun f vs=>PySem.call f vs):=by
 have hr:Room 200 callerA:=⟨rfl,by decide,by decide⟩
 refine Att.attach_call hn hdf fun w s₀ s₁ mg mb fa o pm cd doc a vs ns TT Y ho hd hcd hmg hobj hints hlen hg=>?_
 obtain ⟨KX,tabs⟩:=hY w _ Y
 obtain ⟨st,fdd,hb,T,Dd,tc⟩:=F w mg fa _ KX TT.T.g hmg
 refine law_run KX TT.T.g TT.T.b TT.T.builtins TT.T.nolimit hg TT.T.bmain hobj hints (Nat.le_trans hlen (by decide)) hr (fun t ht=>?_) (fun base hK hB=>?_) hb (main ns hlen)
 · obtain ⟨h1,c,h2⟩:=tc t ht
   exact ⟨tabs t ht,h1,((PySem.W.codeHd_of_K KX h2).tab (tabs t ht)).isCodeTable⟩
 · have:=((all_ok (P:=l.prog) (w:=w) (base:=base) T hK hB 200).1 i fd st fa fdd hi Dd).1
   rw [hp] at this
   exact this
section
theorem usS {α:Type} {P:List α→Prop} {k:Nat} (h:∀ a us,us.length = k→P (a::us)):∀ us,us.length = k+1→P us
 | [],e=>by cases e
 | a::us,e=>h a us (Nat.succ.inj e)
theorem us0 {α:Type} {P:List α→Prop} (h:P []) (us:List α) (e:us.length = 0):P us:=List.length_eq_zero_iff.mp e▸h
variable {fd:FuncData} {ps:List Str}
theorem us1 (h:∀ a,bindArgs fd ⟨[a],[]⟩ = pure (ps.zip [a])):∀ us:List Value,us.length = 1→bindArgs fd ⟨us,[]⟩ = pure (ps.zip us) :=
 usS (P:=fun us=>bindArgs fd ⟨us,[]⟩ = pure (ps.zip (us))) fun a=>us0 (P:=fun us=>bindArgs fd ⟨a::us,[]⟩ = pure (ps.zip (a::us))) (h a)
theorem us2 (h:∀ a b,bindArgs fd ⟨[a,b],[]⟩ = pure (ps.zip [a,b])):∀ us:List Value,us.length = 2→bindArgs fd ⟨us,[]⟩ = pure (ps.zip us) :=
 usS (P:=fun us=>bindArgs fd ⟨us,[]⟩ = pure (ps.zip (us))) fun a=>usS (P:=fun us=>bindArgs fd ⟨a::us,[]⟩ = pure (ps.zip (a::us))) fun b=>us0 (P:=fun us=>bindArgs fd ⟨a::b::us,[]⟩ = pure (ps.zip (a::b::us))) (h a b)
theorem us3 (h:∀ a b c,bindArgs fd ⟨[a,b,c],[]⟩ = pure (ps.zip [a,b,c])):∀ us:List Value,us.length = 3→bindArgs fd ⟨us,[]⟩ = pure (ps.zip us) :=
 usS (P:=fun us=>bindArgs fd ⟨us,[]⟩ = pure (ps.zip (us))) fun a=>usS (P:=fun us=>bindArgs fd ⟨a::us,[]⟩ = pure (ps.zip (a::us))) fun b=>usS (P:=fun us=>bindArgs fd ⟨a::b::us,[]⟩ = pure (ps.zip (a::b::us))) fun c=>us0 (P:=fun us=>bindArgs fd ⟨a::b::c::us,[]⟩ = pure (ps.zip (a::b::c::us))) (h a b c)
end
end PP
end
section
namespace PP
open PySem
section
variable {cx:Cl} {δ:Loc}
end
end PP
end
section
namespace PP
open PySem
theorem ltD_inv {a b:D} {k:Bool} (h:ltD a b = some k):(∃ i j:Int,a = .int i∧b = .int j∧k = decide (i < j))∨(∃ s t:Str,a = .str s∧b = .str t∧k = ltS s t)∨∃ xs ys,a = .tup xs∧b = .tup ys∧ltDs xs ys = some k:=by
 unfold ltD at h
 split at h
 · cases h;exact .inl ⟨_,_,rfl,rfl,rfl⟩
 · cases h;exact .inr (.inl ⟨_,_,rfl,rfl,rfl⟩)
 · exact .inr (.inr ⟨_,_,rfl,rfl,h⟩)
 · cases h
theorem ltDs_cons {x y:D} {xs ys:List D} (hx:hb x = true) (hy:hb y = true):ltDs (x::xs) (y::ys) = some k↔(x = y∧ltDs xs ys = some k)∨(x≠y∧ltD x y = some k):=by
 rw [show ltDs (x::xs) (y::ys) = if eqD x y = true then ltDs xs ys else ltD x y from by rw [ltDs]]
 by_cases e:x = y
 · rw [if_pos ((eqD_iff x y hx hy).mpr e)]
   exact ⟨fun h=>.inl ⟨e,h⟩,fun h=>h.elim (·.2) fun z=>absurd e z.1⟩
 · rw [if_neg fun z=>e ((eqD_iff x y hx hy).mp z)]
   exact ⟨fun h=>.inr ⟨e,h⟩,fun h=>h.elim (fun z=>absurd z.1 e) (·.2)⟩
def LtA (a:D):Prop:=∀ b k k',hb a = true→hb b = true→ltD a b = some k→ltD b a = some k'→(a = b∧k = false∧k' = false)∨(a≠b∧k' = !k)
def LtT (a:D):Prop:=∀ b c k,hb a = true→hb b = true→hb c = true→ltD b a = some false→ltD c b = some false→ltD c a = some k→k = false
theorem hbL_cons {x:D} {xs:List D} (h:hbL (x::xs) = true):hb x = true∧hbL xs = true:=by
 unfold hbL at h
 rwa [Bool.and_eq_true] at h
theorem ltA_list:∀ (xs ys:List D) (k k':Bool),(∀ x∈xs,LtA x)→hbL xs = true→hbL ys = true→ltDs xs ys = some k→ltDs ys xs = some k'→(xs = ys∧k = false∧k' = false)∨(xs≠ys∧k' = !k)
 | [],[],k,k',_,_,_,h,h'=>by
   unfold ltDs at h h'
   cases h;cases h'
   exact .inl ⟨rfl,rfl,rfl⟩
 | [],_::_,k,k',_,_,_,h,h'=>by
   unfold ltDs at h h'
   cases h;cases h'
   exact .inr ⟨by simp,rfl⟩
 | _::_,[],k,k',_,_,_,h,h'=>by
   unfold ltDs at h h'
   cases h;cases h'
   exact .inr ⟨by simp,rfl⟩
 | x::xs,y::ys,k,k',hA,h1,h2,h,h'=>by
   obtain ⟨a1,a2⟩:=hbL_cons h1
   obtain ⟨b1,b2⟩:=hbL_cons h2
   rcases (ltDs_cons a1 b1).mp h with ⟨rfl,g⟩ | ⟨e,g⟩
   · rcases (ltDs_cons b1 a1).mp h' with ⟨_,g'⟩ | ⟨e',_⟩
     · rcases ltA_list xs ys k k' (fun z hz=>hA z (List.mem_cons_of_mem _ hz)) a2 b2 g g' with ⟨rfl,q⟩ | ⟨n,q⟩
       · exact .inl ⟨rfl,q⟩
       · exact .inr ⟨fun z=>n (List.cons.inj z).2,q⟩
     · exact absurd rfl e'
   · rcases (ltDs_cons b1 a1).mp h' with ⟨e',_⟩ | ⟨_,g'⟩
     · exact absurd e'.symm e
     · rcases hA x List.mem_cons_self y k k' a1 b1 g g' with ⟨z,_⟩ | ⟨_,q⟩
       · exact absurd z e
       · exact .inr ⟨fun z=>e (List.cons.inj z).1,q⟩
theorem depL_mem {x:D}:∀ {xs:List D},x∈xs→dep x≤depL xs
 | y::ys,h=>by
   unfold depL
   rcases List.mem_cons.mp h with rfl | h
   · exact Nat.le_max_left _ _
   · exact Nat.le_trans (depL_mem h) (Nat.le_max_right _ _)
theorem ltA_all:∀ (n:Nat) (a:D),dep a≤n→LtA a
 | n,a,hn,b,k,k',ha,hb',h,h'=>by
   rcases ltD_inv h with ⟨i,j,rfl,rfl,rfl⟩ | ⟨s,t,rfl,rfl,rfl⟩ | ⟨xs,ys,rfl,rfl,h⟩
   · rcases ltD_inv h' with ⟨i',j',e1,e2,rfl⟩ | ⟨_,_,e,_⟩ | ⟨_,_,e,_⟩
     · cases e1;cases e2
       by_cases e:i = j
       · subst e;exact .inl ⟨rfl,by simp,by simp⟩
       · refine .inr ⟨fun z=>e (D.int.inj z),?_⟩
         by_cases l:i < j
         · rw [decide_eq_true l,decide_eq_false (by omega)];rfl
         · rw [decide_eq_false l,decide_eq_true (by omega)];rfl
     · cases e
     · cases e
   · rcases ltD_inv h' with ⟨_,_,e,_⟩ | ⟨s',t',e1,e2,rfl⟩ | ⟨_,_,e,_⟩
     · cases e
     · cases e1;cases e2
       by_cases e:s = t
       · subst e
         have:ltS s s = false:=by
          cases z:ltS s s with
          | false=>rfl
          | true=>have:=ltS_as _ _ z;rw [z] at this;cases this
         exact .inl ⟨rfl,this,this⟩
       · refine .inr ⟨fun z=>e (D.str.inj z),?_⟩
         cases z:ltS s t with
         | true=>exact ltS_as _ _ z
         | false =>
           cases z':ltS t s with
           | true=>rfl
           | false=>exact absurd (ltS_eq _ _ z z') e
     · cases e
   · rcases ltD_inv h' with ⟨_,_,e,_⟩ | ⟨_,_,e,_⟩ | ⟨xs',ys',e1,e2,h'⟩
     · cases e
     · cases e
     · cases e1;cases e2
       unfold hb at ha hb'
       have hd:depL xs+1≤n:=by unfold dep at hn;exact hn
       cases n with
       | zero=>omega
       | succ n =>
         rcases ltA_list xs ys k k' (fun x hx=>ltA_all n x (by have:=depL_mem hx;omega)) ha hb' h h' with ⟨rfl,q⟩ | ⟨e,q⟩
         · exact .inl ⟨rfl,q⟩
         · exact .inr ⟨fun z=>e (D.tup.inj z),q⟩
theorem ltT_list:∀ (xs ys zs:List D) (k:Bool),(∀ x∈xs,LtT x)→hbL xs = true→hbL ys = true→hbL zs = true→ltDs ys xs = some false→ltDs zs ys = some false→ltDs zs xs = some k→k = false
 | [],ys,zs,k,_,_,_,_,_,_,h3=>by
   cases zs<;>unfold ltDs at h3<;>cases h3<;>rfl
 | x::xs,[],zs,k,_,_,_,_,h1,_,_=>by
   unfold ltDs at h1;cases h1
 | x::xs,y::ys,[],k,_,_,_,_,_,h2,_=>by
   unfold ltDs at h2;cases h2
 | x::xs,y::ys,z::zs,k,hT,b1,b2,b3,h1,h2,h3=>by
   obtain ⟨x1,x2⟩:=hbL_cons b1
   obtain ⟨y1,y2⟩:=hbL_cons b2
   obtain ⟨z1,z2⟩:=hbL_cons b3
   rcases (ltDs_cons y1 x1).mp h1 with ⟨e1,g1⟩ | ⟨e1,g1⟩
   · subst e1
     rcases (ltDs_cons z1 y1).mp h2 with ⟨e2,g2⟩ | ⟨e2,g2⟩
     · subst e2
       rcases (ltDs_cons z1 z1).mp h3 with ⟨_,g3⟩ | ⟨e3,_⟩
       · exact ltT_list xs ys zs k (fun w hw=>hT w (List.mem_cons_of_mem _ hw)) x2 y2 z2 g1 g2 g3
       · exact absurd rfl e3
     · rcases (ltDs_cons z1 y1).mp h3 with ⟨e3,_⟩ | ⟨_,g3⟩
       · exact absurd e3 e2
       · rw [g2] at g3;cases g3;rfl
   · rcases (ltDs_cons z1 y1).mp h2 with ⟨e2,g2⟩ | ⟨e2,g2⟩
     · subst e2
       rcases (ltDs_cons z1 x1).mp h3 with ⟨e3,_⟩ | ⟨_,g3⟩
       · exact absurd e3 e1
       · rw [g1] at g3;cases g3;rfl
     · rcases (ltDs_cons z1 x1).mp h3 with ⟨e3,_⟩ | ⟨_,g3⟩
       · subst e3
         rcases ltA_all _ y (Nat.le_refl _) z false false y1 z1 g1 g2 with ⟨e,_⟩ | ⟨_,e⟩
         · exact absurd e e1
         · cases e
       · exact hT x List.mem_cons_self y z k x1 y1 z1 g1 g2 g3
theorem ltT_all:∀ (n:Nat) (a:D),dep a≤n→LtT a
 | n,a,hn,b,c,k,ha,hb',hc,h1,h2,h3=>by
   rcases ltD_inv h3 with ⟨i,j,rfl,rfl,rfl⟩ | ⟨s,t,rfl,rfl,rfl⟩ | ⟨zs,xs,rfl,rfl,g3⟩
   · rcases ltD_inv h1 with ⟨i',j',rfl,e2,e3⟩ | ⟨_,_,_,e,_⟩ | ⟨_,_,_,e,_⟩
     · cases e2
       rcases ltD_inv h2 with ⟨_,_,e4,e5,e6⟩ | ⟨_,_,e,_⟩ | ⟨_,_,e,_⟩
       · cases e4;cases e5
         have:=of_decide_eq_false e3.symm
         have:=of_decide_eq_false e6.symm
         exact decide_eq_false (by omega)
       · cases e
       · cases e
     · cases e
     · cases e
   · rcases ltD_inv h1 with ⟨_,_,_,e,_⟩ | ⟨i',j',rfl,e2,e3⟩ | ⟨_,_,_,e,_⟩
     · cases e
     · cases e2
       rcases ltD_inv h2 with ⟨_,_,e,_⟩ | ⟨_,_,e4,e5,e6⟩ | ⟨_,_,e,_⟩
       · cases e
       · cases e4;cases e5
         exact ltS_tr _ _ _ e3.symm e6.symm
       · cases e
     · cases e
   · rcases ltD_inv h1 with ⟨_,_,_,e,_⟩ | ⟨_,_,_,e,_⟩ | ⟨ys,xs',rfl,e2,g1⟩
     · cases e
     · cases e
     · cases e2
       rcases ltD_inv h2 with ⟨_,_,e,_⟩ | ⟨_,_,e,_⟩ | ⟨_,_,e4,e5,g2⟩
       · cases e
       · cases e
       · cases e4;cases e5
         unfold hb at ha hb' hc
         have hd:depL xs+1≤n:=by unfold dep at hn;exact hn
         cases n with
         | zero=>omega
         | succ n=>exact ltT_list xs ys zs k (fun x hx=>ltT_all n x (by have:=depL_mem hx;omega)) ha hb' hc g1 g2 g3
theorem ltOk_lt {a b:D} {k:Bool} (h:ltOk a b = some k):ltD a b = some k∧ltB a b = k:=by
 refine ⟨?_,by unfold ltB;rw [h];rfl⟩
 unfold ltOk at h
 split at h
 · exact h
 · cases h
theorem tot_of {ds:List D} (hs:sortable ds = true) (hh:∀ d∈ds,hb d = true):tot ds = true:=by
 obtain ⟨_,_,hlt⟩:=(letI:Tbs:=⟨[],[]⟩;sortable_inv hs)
 unfold tot
 rw [List.all_eq_true]
 intro a ha
 rw [List.all_eq_true]
 intro b hb'
 obtain ⟨k,e⟩:=hlt a ha b hb'
 obtain ⟨k',e'⟩:=hlt b hb' a ha
 obtain ⟨e1,e2⟩:=ltOk_lt e
 obtain ⟨e1',e2'⟩:=ltOk_lt e'
 have h:=ltA_all _ a (Nat.le_refl _) b k k' (hh a ha) (hh b hb') e1 e1'
 rw [e2,e2',Bool.and_eq_true,Bool.and_eq_true]
 refine ⟨⟨?_,?_⟩,?_⟩
 · rcases h with ⟨_,rfl,rfl⟩ | ⟨_,rfl⟩
   · rfl
   · cases k<;>rfl
 · rcases h with ⟨rfl,rfl,rfl⟩ | ⟨_,rfl⟩
   · rw [(eqD_iff a a (hh a ha) (hh a ha)).mpr rfl];rfl
   · cases k<;>rfl
 · rw [List.all_eq_true]
   intro c hc
   obtain ⟨m,f⟩:=hlt c hc b hb'
   obtain ⟨m',f'⟩:=hlt c hc a ha
   obtain ⟨f1,f2⟩:=ltOk_lt f
   obtain ⟨f1',f2'⟩:=ltOk_lt f'
   rw [f2,f2']
   cases k' with
   | true=>rfl
   | false =>
     cases m with
     | true=>rfl
     | false =>
       rw [ltT_all _ a (Nat.le_refl _) b c m' (hh a ha) (hh b hb') (hh c hc) e1' f1 f1']
       rfl
theorem addU_mem {ds:List D} {d x:D} (hd:hb d = true) (hs:∀ y∈ds,hb y = true):x∈addU ds d↔x∈ds∨x = d:=by
 unfold addU
 split
 · rename_i h
   obtain ⟨y,hy,e⟩:=List.any_eq_true.mp h
   rw [eqD_iff y d (hs y hy) hd] at e
   exact ⟨.inl,fun z=>z.elim id fun z=>by rw [z,← e];exact hy⟩
 · simp
theorem dedD_ok:∀ (xs ds:List D),(∀ x∈xs,hb x = true)→(∀ x∈ds,hb x = true)→ds.Nodup→(∀ x,x∈xs.foldl addU ds↔x∈ds∨x∈xs)∧(xs.foldl addU ds).Nodup
 | [],ds,_,_,h=>⟨fun x=>by simp,h⟩
 | d::xs,ds,h1,h2,h3=>by
   have hd:=h1 d List.mem_cons_self
   have hm:∀ x,x∈addU ds d↔x∈ds∨x = d:=fun x=>addU_mem hd h2
   have hn:(addU ds d).Nodup:=by
    unfold addU
    split
    · exact h3
    · rename_i h
      rw [List.nodup_append]
      refine ⟨h3,by simp,fun a ha b hb'=>?_⟩
      rw [List.mem_singleton] at hb'
      intro e
      apply h
      exact List.any_eq_true.mpr ⟨a,ha,(eqD_iff a d (h2 a ha) hd).mpr (by rw [e,hb'])⟩
   obtain ⟨i1,i2⟩:=dedD_ok xs (addU ds d) (fun x hx=>h1 x (List.mem_cons_of_mem _ hx)) (fun x hx=>by
    rcases (hm x).mp hx with z | rfl
    · exact h2 x z
    · exact hd) hn
   refine ⟨fun x=>?_,i2⟩
   rw [List.foldl_cons,i1 x,hm x,List.mem_cons,or_assoc]
theorem dedD_mem {xs:List D} (h:∀ x∈xs,hb x = true) {x:D}:x∈dedD xs↔x∈xs:=by
 have:=(dedD_ok xs [] h (by simp) (by simp)).1 x
 unfold dedD
 rw [this]
 simp
theorem dedD_nodup {xs:List D} (h:∀ x∈xs,hb x = true):(dedD xs).Nodup:=(dedD_ok xs [] h (by simp) (by simp)).2
theorem sub_lenG {α:Type}:∀ {l ns:List α},l.Nodup→(∀ x∈l,x∈ns)→l.length≤ns.length
 | [],_,_,_=>Nat.zero_le _
 | x::l,ns,h,hs=>by
   rw [List.nodup_cons] at h
   obtain ⟨a,b,rfl⟩:=List.append_of_mem (hs x List.mem_cons_self)
   have ih:=sub_lenG (l:=l) (ns:=a++b) h.2 fun y hy=>by
    have:=hs y (List.mem_cons_of_mem _ hy)
    simp only [List.mem_append,List.mem_cons] at this ⊢
    rcases this with z | rfl | z
    · exact .inl z
    · exact absurd hy h.1
    · exact .inr z
   simp only [List.length_append,List.length_cons] at ih ⊢
   omega
def srt (xs:List D):List D:=sortL (dedD xs)
theorem srt_mem {xs:List D} (h:∀ x∈xs,hb x = true) (hs:sortable (dedD xs) = true) {x:D}:x∈srt xs↔x∈xs:=by
 have ht:=tot_of hs fun d hd=>h d ((dedD_mem h).mp hd)
 rw [show x∈srt xs↔x∈dedD xs from (sortD_up (.refl _) hs ht).1.mem_iff,dedD_mem h]
theorem srt_up {xs:List D} (h:∀ x∈xs,hb x = true) (hs:sortable (dedD xs) = true):(srt xs).Pairwise fun a b=>ltOk a b = some true:=by
 have hh:∀ d∈dedD xs,hb d = true:=fun d hd=>h d ((dedD_mem h).mp hd)
 have ht:=tot_of hs hh
 obtain ⟨p,u⟩:=sortD_up (.refl _) hs ht
 obtain ⟨_,_,hlt⟩:=(letI:Tbs:=⟨[],[]⟩;sortable_inv hs)
 have nd:(srt xs).Nodup:=p.nodup_iff.mpr (dedD_nodup h)
 have both:=List.pairwise_and_iff.mpr ⟨u,nd⟩
 refine both.imp_of_mem fun {a b} ha hb' q=>?_
 have ma:=p.mem_iff.mp ha
 have mb:=p.mem_iff.mp hb'
 obtain ⟨k,e⟩:=hlt a ma b mb
 obtain ⟨k',e'⟩:=hlt b mb a ma
 have q1:=q.1
 rw [(ltOk_lt e').2] at q1
 subst q1
 rcases ltA_all _ a (Nat.le_refl _) b k false (hh a ma) (hh b mb) (ltOk_lt e).1 (ltOk_lt e').1 with ⟨z,_⟩ | ⟨_,z⟩
 · exact absurd z q.2
 · cases k
   · cases z
   · exact e
theorem dedD_sortable {xs:List D} {n:Nat} (hn:n < 64) (h:∀ x∈xs,hb x = true) (hl:∀ l:List D,l.Nodup→(∀ x∈l,x∈xs)→l.length≤n) (hk:∀ x∈xs,headK x = 3) (hc:∀ x∈xs,∀ y∈xs,(ltOk x y).isSome = true):sortable (dedD xs) = true:=by
 have hm:∀ x,x∈dedD xs→x∈xs:=fun x hx=>(dedD_mem h).mp hx
 unfold sortable
 simp only [Bool.and_eq_true,decide_eq_true_eq,List.all_eq_true]
 refine ⟨⟨Nat.lt_of_le_of_lt (hl _ (dedD_nodup h) hm) hn,fun x hx=>?_⟩,fun x hx y hy=>hc x (hm x hx) y (hm y hy)⟩
 cases e:dedD xs with
 | nil=>rw [e] at hx;cases hx
 | cons z zs =>
   have e1:=hk x (hm x hx)
   have e2:=hk z (hm z (by rw [e];exact List.mem_cons_self))
   show (headK x != 0) = true∧(headK x == headK z) = true
   rw [e1,e2]
   exact ⟨rfl,rfl⟩
end PP
end
section
namespace PP
open PySem L2
def takeS:Nat→Ss→Ss
 | 0,_=>.nil
 | _,.nil=>.nil
 | k+1,.cons s ss=>.cons s (takeS k ss)
def dropS:Nat→Ss→Ss
 | 0,ss=>ss
 | _,.nil=>.nil
 | k+1,.cons _ ss=>dropS k ss
def nxS (R:PP.Loc→Prop) (Q:Out→Prop):Out→Prop
 | .nx δ=>R δ
 | o=>Q o
theorem nxS_nx {R:PP.Loc→Prop} {Q:Out→Prop} {δ:PP.Loc}:nxS R Q (.nx δ)↔R δ:=Iff.rfl
theorem wS_mono {cx:Cl} {s:S} {δ:PP.Loc} {P Q:Out→Prop} (h:wS cx s δ P) (k:∀ o,P o→Q o):wS cx s δ Q:=let ⟨o,e,p⟩:=h;⟨o,e,k o p⟩
theorem wSs_cut {cx:Cl} {Q:Out→Prop} {R:PP.Loc→Prop}:∀ (k:Nat) (ss:Ss) (δ:PP.Loc),wSs cx (takeS k ss) δ (nxS R Q)→(∀ δ',R δ'→wSs cx (dropS k ss) δ' Q)→wSs cx ss δ Q
 | 0,ss,δ,h,q=>by
   unfold takeS at h
   exact q δ (wSs_nil.mp h)
 | _+1,.nil,δ,h,q=>by
   unfold takeS at h
   unfold dropS at q
   exact q δ (wSs_nil.mp h)
 | k+1,.cons s ss,δ,h,q=>by
   unfold takeS at h
   unfold dropS at q
   refine wSs_cons.mpr (wS_mono (wSs_cons.mp h) fun o p=>?_)
   cases o with
   | nx δ1=>exact wSs_cut k ss δ1 p q
   | rt d δ1=>exact p
   | bk δ1=>exact p
   | ct δ1=>exact p
   | ro d δ1=>exact p
theorem wSs_run {cx:Cl} {ss:Ss} {δ:PP.Loc} {Q:Out→Prop} (k:Nat) (δ':PP.Loc) (h:evSs cx (takeS k ss) δ = some (.nx δ')) (q:wSs cx (dropS k ss) δ' Q):wSs cx ss δ Q:=wSs_cut (R:=fun d=>d = δ') k ss δ ⟨.nx δ',h,rfl⟩ fun _ e=>e▸q
theorem wS_if' {cx:Cl} {c:E} {a b:Ss} {δ δ0:PP.Loc} {Q:Out→Prop} (P:Bool→Prop) (h:wT cx c δ fun k δ1=>δ1 = δ0∧P k) (ha:P true→wSs cx a δ0 Q) (hb:P false→wSs cx b δ0 Q):wS cx (.ifs c a b) δ Q:=by
 obtain ⟨k,δ1,e,rfl,p⟩:=h
 refine wS_ifs.mpr ⟨k,δ1,e,?_⟩
 cases k
 · exact hb p
 · exact ha p
theorem iteI {c A B:Prop} [Decidable c] (h1:c→A) (h2:¬ c→B):if c then A else B:=by
 by_cases h:c
 · rw [if_pos h];exact h1 h
 · rw [if_neg h];exact h2 h
theorem one_if {cx:Cl} {a b:Ss} {x:E} {δ:PP.Loc} {Q:Out→Prop} {p:Bool} (hx:∀ {R:Bool→PP.Loc→Prop},R p δ→wT cx x δ R) (ha:p = true→wSs cx a δ Q) (hb:p = false→wSs cx b δ Q):wS cx (.ifs x a b) δ Q:=by
 refine wS_if' (δ0:=δ) (fun k=>k = p) (hx ⟨rfl,rfl⟩) (fun h=>ha h.symm) fun h=>hb h.symm
def tells (cx:Cl) (x:E) (δ:PP.Loc) (p:Bool):Prop:=∀ {R:Bool→PP.Loc→Prop},R p δ→wT cx x δ R
theorem tells_and {cx:Cl} {x y:E} {δ:PP.Loc} {p q:Bool} (hx:tells cx x δ p) (hy:p = true→tells cx y δ q):tells cx (.and x y) δ (p && q):=fun h=>by
 rw [wT_and]
 refine hx ?_
 cases p
 · exact h
 · exact hy rfl h
theorem tells_or {cx:Cl} {x y:E} {δ:PP.Loc} {p q:Bool} (hx:tells cx x δ p) (hy:p = false→tells cx y δ q):tells cx (.or x y) δ (p || q):=fun h=>by
 rw [wT_or]
 refine hx ?_
 cases p
 · exact hy rfl h
 · exact h
theorem tells_not {cx:Cl} {x:E} {δ:PP.Loc} {p:Bool} (hx:tells cx x δ p):tells cx (.not x) δ (!p):=fun h=>by
 rw [wT_not]
 exact hx h
theorem tells_if {cx:Cl} {a b:Ss} {x:E} {δ:PP.Loc} {Q:Out→Prop} {p:Bool} (hx:tells cx x δ p) (ha:p = true→wSs cx a δ Q) (hb:p = false→wSs cx b δ Q):wS cx (.ifs x a b) δ Q:=one_if hx ha hb
end PP
end
section
namespace P1
open PySem L2 PP
def top (i:Nat):Stmt:=PySem.Challenge.pw_cutless_k08_marks.main.body.getD i (.Pass ⟨0,0,0,0⟩)
def d_inside:Fd:=⟨"inside",["A"],[],
 (.cons (.ret (.ite (.cmp .isin (.ix (.var 0) (.int 0)) (.glob 0)) (.tup .nil) (.sl (.var 0) (.yes (.int 1)) .no)))
 .nil),false⟩
def d_is_place:Fd:=⟨"is_place",["term"],[],
 (.cons (.ret (.isdig 0))
 .nil),false⟩
def d_with_terms:Fd:=⟨"with_terms",["A","depth","change"],["kind","inner"],
 (.cons (.asg (.nm 3) (.ix (.var 0) (.int 0)))
 (.cons (.ifs (.cmp .eq (.var 3) (.str "word"))
 (.cons (.ret (.tup (.cons (.var 3) (.cons (.ix (.var 0) (.int 1)) (.cons (.blt .toTup (.cons (.comp 1 (.nm 5) (.sq (.ix (.var 0) (.int 2))) .no (.callv 2 (.cons (.var 5) (.cons (.var 1) .nil)))) .nil)) .nil)))))
 .nil)
 .nil)
 (.cons (.asg (.nm 4) (.ite (.cmp .isin (.var 3) (.glob 1)) (.bin .add (.var 1) (.int 1)) (.var 1)))
 (.cons (.ret (.bin .add (.tup (.cons (.var 3) .nil)) (.blt .toTup (.cons (.comp 1 (.nm 5) (.sq (.call 0 (.cons (.var 0) .nil))) .no (.callF 2 (.cons (.var 5) (.cons (.var 4) .nil)) 2)) .nil))))
 .nil)))),true⟩
def d_put_in:Fd:=⟨"put_in",["body","name"],[],
 (.cons (.retL 2 (.cons (.var 0) (.cons (.int 0) .nil)) 24 [1])
 .nil),false⟩
def d_other_side:Fd:=⟨"other_side",["side"],[],
 (.cons (.ret (.ite (.cmp .eq (.var 0) (.str "left")) (.str "right") (.str "left")))
 .nil),false⟩
def d_signed_within:Fd:=⟨"signed_within",["side","A"],["signed"],
 (.cons (.cmp true 2 (.comp 1 (.nm 3) (.sq (.call 0 (.cons (.var 1) .nil))) .no (.tup (.cons (.var 0) (.cons (.var 3) .nil)))))
 (.cons (.ifs (.cmp .isin (.ix (.var 1) (.int 0)) (.tup (.cons (.str "not") (.cons (.str "if") .nil))))
 (.cons (.setix 2 (.int 0) (.tup (.cons (.call 4 (.cons (.var 0) .nil)) (.cons (.ix (.var 1) (.int 1)) .nil))))
 .nil)
 .nil)
 (.cons (.ret (.var 2))
 .nil))),false⟩
def d_parts:Fd:=⟨"parts",["side","A","name"],["kind","signed"],
 (.cons (.asg (.nm 3) (.ix (.var 1) (.int 0)))
 (.cons (.ifs (.cmp .isin (.var 3) (.glob 0))
 (.cons (.ret (.lst .nil))
 .nil)
 .nil)
 (.cons (.ifs (.cmp .isin (.var 3) (.glob 1))
 (.cons (.ret (.lst (.cons (.lst (.cons (.tup (.cons (.var 0) (.cons (.call 3 (.cons (.ix (.var 1) (.int 1)) (.cons (.var 2) .nil))) .nil))) .nil)) .nil)))
 .nil)
 .nil)
 (.cons (.asg (.nm 4) (.call 5 (.cons (.var 0) (.cons (.var 1) .nil))))
 (.cons (.ifs (.cmp .isin (.tup (.cons (.var 0) (.cons (.var 3) .nil))) (.glob 2))
 (.cons (.ret (.comp 1 (.nm 5) (.sq (.var 4)) .no (.lst (.cons (.var 5) .nil))))
 .nil)
 .nil)
 (.cons (.ret (.lst (.cons (.var 4) .nil)))
 .nil)))))),false⟩
def d_marks_within:Fd:=⟨"marks_within",["side","A"],["found","inner","B"],
 (.cons (.ifs (.cmp .eq (.ix (.var 1) (.int 0)) (.str "word"))
 (.cons (.ret (.lst (.cons (.tup (.cons (.ix (.var 1) (.int 1)) (.cons (.blt .len (.cons (.ix (.var 1) (.int 2)) .nil)) (.cons (.var 0) .nil)))) .nil)))
 .nil)
 .nil)
 (.cons (.new 2 (.lst .nil))
 (.cons (.for_ (.tp [3,4]) (.sq (.call 5 (.cons (.var 0) (.cons (.var 1) .nil))))
 (.cons (.extend 2 (.call 7 (.cons (.var 3) (.cons (.var 4) .nil))))
 .nil))
 (.cons (.ret (.var 2))
 .nil)))),false⟩
def d_marks:Fd:=⟨"marks",["side","A"],[],
 (.cons (.ret (.ssd (.call 7 (.cons (.var 0) (.cons (.var 1) .nil)))))
 .nil),false⟩
def d__law_cell:Fd:=⟨"_law_cell",["_law_script","_law_k"],["_law_number"],
 (.cons (.ifs (.cmp .lt (.var 1) (.blt .len (.cons (.var 0) .nil)))
 (.cons (.ret (.ix (.var 0) (.var 1)))
 .nil)
 .nil)
 (.cons (.asg (.nm 2) (.bin .add (.bin .mul (.var 1) (.int 7919)) (.int 5)))
 (.cons (.ifs (.cmp .gt (.blt .len (.cons (.var 0) .nil)) (.int 0))
 (.cons (.asg (.nm 2) (.bin .add (.bin .mod (.bin .mul (.ix (.var 0) (.bin .mod (.bin .mul (.var 1) (.int 7)) (.blt .len (.cons (.var 0) .nil)))) (.int 48271)) (.int 2147483647)) (.bin .mul (.var 1) (.int 104729))))
 .nil)
 .nil)
 (.cons (.ret (.bin .mod (.bin .mul (.var 2) (.var 2)) (.int 2147483629)))
 .nil)))),false⟩
def d__law_cells:Fd:=⟨"_law_cells",["_law_script","_law_least"],["_law_many"],
 (.cons (.asg (.nm 2) (.blt .min (.cons (.blt .max (.cons (.blt .len (.cons (.var 0) .nil)) (.cons (.var 1) .nil))) (.cons (.int 63) .nil))))
 (.cons (.ret (.comp 1 (.nm 3) (.rng (.var 2)) .no (.bin .mod (.call 9 (.cons (.var 0) (.cons (.var 3) .nil))) (.bin .pow (.int 10) (.int 40)))))
 .nil)),false⟩
def d__law_letters:Fd:=⟨"_law_letters",["_law_cell_here","_law_first","_law_later"],["_law_text","_law_k"],
 (.cons (.asg (.nm 3) (.ix (.var 1) (.bin .mod (.var 0) (.blt .len (.cons (.var 1) .nil)))))
 (.cons (.asg (.nm 0) (.bin .fdiv (.var 0) (.blt .len (.cons (.var 1) .nil))))
 (.cons (.for_ (.nm 4) (.rng (.bin .mod (.var 0) (.int 8)))
 (.cons (.asg (.nm 3) (.bin .add (.var 3) (.ix (.var 2) (.bin .mod (.bin .fdiv (.var 0) (.int 8)) (.blt .len (.cons (.var 2) .nil))))))
 (.cons (.asg (.nm 0) (.bin .fdiv (.var 0) (.blt .len (.cons (.var 2) .nil))))
 .nil)))
 (.cons (.ret (.var 3))
 .nil)))),false⟩
def d__law_family:Fd:=⟨"_law_family",["_law_cell_here","_law_filler"],["_law_size","_law_at"],
 (.cons (.asg (.nm 2) (.bin .add (.int 2) (.bin .mod (.var 0) (.int 7))))
 (.cons (.asg (.nm 3) (.bin .mod (.bin .fdiv (.var 0) (.int 7)) (.var 2)))
 (.cons (.ret (.comp 1 (.nm 4) (.sq (.str "bdgh")) .no (.bin .add (.bin .add (.bin .mul (.var 1) (.var 3)) (.var 4)) (.bin .mul (.var 1) (.bin .sub (.bin .sub (.var 2) (.int 1)) (.var 3))))))
 .nil))),false⟩
def d__law_wide:Fd:=⟨"_law_wide",["_law_script","_law_k"],[],
 (.cons (.ret (.bin .add (.bin .mul (.bin .mod (.call 9 (.cons (.var 0) (.cons (.var 1) .nil))) (.bin .pow (.int 10) (.int 40))) (.int 1000003)) (.bin .mod (.call 9 (.cons (.var 0) (.cons (.bin .add (.var 1) (.int 20)) .nil))) (.bin .pow (.int 10) (.int 40)))))
 .nil),false⟩
def d__law_words:Fd:=⟨"_law_words",["_law_script"],["_law_letters_here","_law_words_here","_law_k","_law_text"],
 (.cons (.asg (.nm 1) (.str "abcdefghijklmnopqrstuvwxyz"))
 (.cons (.ifs (.cmp .eq (.bin .mod (.call 9 (.cons (.var 0) (.cons (.int 64) .nil))) (.int 3)) (.int 0))
 (.cons (.ret (.call 12 (.cons (.bin .fdiv (.call 9 (.cons (.var 0) (.cons (.int 64) .nil))) (.int 3)) (.cons (.str "q") .nil))))
 .nil)
 .nil)
 (.cons (.new 2 (.lst .nil))
 (.cons (.for_ (.nm 3) (.rng (.int 4))
 (.cons (.asg (.nm 4) (.call 11 (.cons (.call 13 (.cons (.var 0) (.cons (.bin .add (.int 65) (.var 3)) .nil))) (.cons (.var 1) (.cons (.var 1) .nil)))))
 (.cons (.ifs (.cmp .isin (.var 4) (.tup (.cons (.str "yes") (.cons (.str "no") (.cons (.str "not") (.cons (.str "and") (.cons (.str "or") (.cons (.str "if") (.cons (.str "all") (.cons (.str "some") .nil))))))))))
 (.cons (.asg (.nm 4) (.bin .add (.var 4) (.str "x")))
 .nil)
 .nil)
 (.cons (.append 2 (.var 4))
 .nil))))
 (.cons (.ret (.var 2))
 .nil))))),false⟩
def d__law_names:Fd:=⟨"_law_names",["_law_script"],["_law_letters_here"],
 (.cons (.asg (.nm 1) (.str "abcdefghijklmnopqrstuvwxyz"))
 (.cons (.ifs (.cmp .eq (.bin .mod (.call 9 (.cons (.var 0) (.cons (.int 69) .nil))) (.int 4)) (.int 0))
 (.cons (.ret (.lst (.cons (.str "n0") (.cons (.str "n1") (.cons (.str "n2") (.cons (.str "p") .nil))))))
 .nil)
 .nil)
 (.cons (.ifs (.cmp .eq (.bin .mod (.call 9 (.cons (.var 0) (.cons (.int 69) .nil))) (.int 4)) (.int 1))
 (.cons (.ret (.call 12 (.cons (.bin .fdiv (.call 9 (.cons (.var 0) (.cons (.int 69) .nil))) (.int 4)) (.cons (.str "z") .nil))))
 .nil)
 .nil)
 (.cons (.ret (.comp 1 (.nm 2) (.rng (.int 4)) .no (.call 11 (.cons (.call 13 (.cons (.var 0) (.cons (.bin .add (.int 70) (.var 2)) .nil))) (.cons (.var 1) (.cons (.bin .add (.var 1) (.str "0123456789")) .nil))))))
 .nil)))),false⟩
def d__law_leaf:Fd:=⟨"_law_leaf",["_law_cell_here","_law_words_here","_law_names_here"],["_law_many","_law_word","_law_terms","_law_k"],
 (.cons (.ifs (.cmp .eq (.bin .mod (.var 0) (.int 7)) (.int 0))
 (.cons (.ret (.ix (.lst (.cons (.tup (.cons (.str "yes") .nil)) (.cons (.tup (.cons (.str "no") .nil)) .nil))) (.bin .mod (.bin .fdiv (.var 0) (.int 7)) (.int 2))))
 .nil)
 .nil)
 (.cons (.asg (.nm 3) (.bin .mod (.bin .fdiv (.var 0) (.int 7)) (.int 4)))
 (.cons (.asg (.nm 4) (.ix (.var 1) (.bin .mod (.bin .fdiv (.var 0) (.int 28)) (.int 4))))
 (.cons (.new 5 (.lst .nil))
 (.cons (.for_ (.nm 6) (.rng (.var 3))
 (.cons (.asg (.nm 0) (.bin .fdiv (.var 0) (.int 4)))
 (.cons (.append 5 (.ix (.var 2) (.bin .mod (.bin .fdiv (.var 0) (.int 28)) (.int 4))))
 .nil)))
 (.cons (.ret (.tup (.cons (.str "word") (.cons (.var 4) (.cons (.blt .toTup (.cons (.pk 5) .nil)) .nil)))))
 .nil)))))),false⟩
def d__law_bound:Fd:=⟨"_law_bound",["_law_ka","_law_name","_law_deep"],["_law_terms","_law_k","_law_inner"],
 (.cons (.ifs (.cmp .eq (.ix (.var 0) (.int 0)) (.str "word"))
 (.cons (.new 3 (.blt .toLst (.cons (.ix (.var 0) (.int 2)) .nil)))
 (.cons (.for_ (.nm 4) (.rng (.blt .len (.cons (.pk 3) .nil)))
 (.cons (.ifs (.cmp .eq (.ix (.pk 3) (.var 4)) (.var 1))
 (.cons (.setix 3 (.var 4) (.blt .toStr (.cons (.var 2) .nil)))
 .nil)
 .nil)
 .nil))
 (.cons (.ret (.tup (.cons (.str "word") (.cons (.ix (.var 0) (.int 1)) (.cons (.blt .toTup (.cons (.pk 3) .nil)) .nil)))))
 .nil)))
 .nil)
 (.cons (.asg (.nm 5) (.bin .add (.var 2) (.blt .toInt (.cons (.or (.cmp .eq (.ix (.var 0) (.int 0)) (.str "all")) (.cmp .eq (.ix (.var 0) (.int 0)) (.str "some"))) .nil))))
 (.cons (.ret (.bin .add (.tup (.cons (.ix (.var 0) (.int 0)) .nil)) (.blt .toTup (.cons (.comp 1 (.nm 6) (.sq (.sl (.var 0) (.yes (.int 1)) .no)) .no (.call 17 (.cons (.var 6) (.cons (.var 1) (.cons (.var 5) .nil))))) .nil))))
 .nil))),false⟩
def d__law_other:Fd:=⟨"_law_other",["_law_some"],["_law_turned","_law_one"],
 (.cons (.new 1 (.lst .nil))
 (.cons (.for_ (.nm 2) (.sq (.var 0))
 (.cons (.append 1 (.tup (.cons (.ix (.var 2) (.int 0)) (.cons (.ix (.var 2) (.int 1)) (.cons (.ix (.lst (.cons (.str "left") (.cons (.str "right") .nil))) (.blt .toInt (.cons (.cmp .eq (.ix (.var 2) (.int 2)) (.str "left")) .nil))) .nil)))))
 .nil))
 (.cons (.ret (.var 1))
 .nil))),false⟩
def d__law_joined:Fd:=⟨"_law_joined",["_law_one","_law_two","_law_way"],[],
 (.cons (.ifs (.cmp .eq (.var 2) (.int 2))
 (.cons (.ret (.tup (.cons (.tup (.cons (.str "if") (.cons (.ix (.var 0) (.int 0)) (.cons (.ix (.var 1) (.int 0)) .nil)))) (.cons (.bin .add (.call 18 (.cons (.ix (.var 0) (.int 1)) .nil)) (.ix (.var 1) (.int 1))) .nil))))
 .nil)
 .nil)
 (.cons (.ret (.tup (.cons (.tup (.cons (.ix (.lst (.cons (.str "and") (.cons (.str "or") .nil))) (.var 2)) (.cons (.ix (.var 0) (.int 0)) (.cons (.ix (.var 1) (.int 0)) .nil)))) (.cons (.bin .add (.ix (.var 0) (.int 1)) (.ix (.var 1) (.int 1))) .nil))))
 .nil)),false⟩
def d__law_marked:Fd:=⟨"_law_marked",["_law_leaf_here"],[],
 (.cons (.ifs (.cmp .ne (.ix (.var 0) (.int 0)) (.str "word"))
 (.cons (.ret (.tup (.cons (.var 0) (.cons (.lst .nil) .nil))))
 .nil)
 .nil)
 (.cons (.ret (.tup (.cons (.var 0) (.cons (.lst (.cons (.tup (.cons (.ix (.var 0) (.int 1)) (.cons (.blt .len (.cons (.ix (.var 0) (.int 2)) .nil)) (.cons (.str "left") .nil)))) .nil)) .nil))))
 .nil)),false⟩
def d__law_built:Fd:=⟨"_law_built",["_law_cells_here","_law_words_here","_law_names_here"],["_law_stack","_law_many","_law_alls","_law_cell_here","_law_way","_law_room","_law_two","_law_one","_law_body"],
 (.cons (.new 3 (.lst .nil))
 (.cons (.asg (.nm 4) (.int 0))
 (.cons (.asg (.nm 5) (.int 0))
 (.cons (.for_ (.nm 6) (.sq (.var 0))
 (.cons (.asg (.nm 7) (.bin .mod (.var 6) (.int 9)))
 (.cons (.asg (.nm 8) (.bin .add (.var 4) (.blt .len (.cons (.pk 3) .nil))))
 (.cons (.ifs (.and (.cmp .lt (.var 7) (.int 3)) (.cmp .gt (.blt .len (.cons (.pk 3) .nil)) (.int 1)))
 (.cons (.asg (.nm 9) (.pop 3))
 (.cons (.asg (.nm 10) (.pop 3))
 (.cons (.append 3 (.call 19 (.cons (.var 10) (.cons (.var 9) (.cons (.var 7) .nil)))))
 (.cons (.aug 4 .add (.int 1))
 .nil))))
 (.cons (.ifs (.and (.cmp .eq (.var 7) (.int 3)) (.and (.cmp .ne (.pk 3) (.lst .nil)) (.cmp .lt (.var 8) (.int 41))))
 (.cons (.asg (.nm 10) (.pop 3))
 (.cons (.append 3 (.tup (.cons (.tup (.cons (.str "not") (.cons (.ix (.var 10) (.int 0)) .nil))) (.cons (.call 18 (.cons (.ix (.var 10) (.int 1)) .nil)) .nil))))
 (.cons (.aug 4 .add (.int 1))
 .nil)))
 (.cons (.ifs (.and (.cmp .eq (.var 7) (.int 4)) (.and (.cmp .ne (.pk 3) (.lst .nil)) (.and (.cmp .lt (.var 8) (.int 41)) (.cmp .lt (.var 5) (.int 9)))))
 (.cons (.asg (.nm 10) (.pop 3))
 (.cons (.asg (.nm 11) (.call 17 (.cons (.ix (.var 10) (.int 0)) (.cons (.ix (.var 2) (.bin .mod (.bin .fdiv (.var 6) (.int 18)) (.int 4))) (.cons (.int 0) .nil)))))
 (.cons (.append 3 (.tup (.cons (.tup (.cons (.ix (.lst (.cons (.str "all") (.cons (.str "some") .nil))) (.bin .mod (.bin .fdiv (.var 6) (.int 9)) (.int 2))) (.cons (.var 11) .nil))) (.cons (.ix (.var 10) (.int 1)) .nil))))
 (.cons (.aug 4 .add (.int 1))
 (.cons (.aug 5 .add (.int 1))
 .nil)))))
 (.cons (.ifs (.cmp .lt (.var 8) (.int 40))
 (.cons (.append 3 (.call 20 (.cons (.call 16 (.cons (.bin .fdiv (.var 6) (.int 9)) (.cons (.var 1) (.cons (.var 2) .nil)))) .nil)))
 (.cons (.aug 4 .add (.int 1))
 .nil))
 .nil)
 .nil))
 .nil))
 .nil))
 .nil))))
 (.cons (.while_ (.cmp .gt (.blt .len (.cons (.pk 3) .nil)) (.int 1))
 (.cons (.asg (.nm 9) (.pop 3))
 (.cons (.asg (.nm 10) (.pop 3))
 (.cons (.append 3 (.call 19 (.cons (.var 10) (.cons (.var 9) (.cons (.int 1) .nil)))))
 .nil))))
 (.cons (.ret (.ix (.pk 3) (.int 0)))
 .nil)))))),false⟩
def d__law_told:Fd:=⟨"_law_told",["_law_found","_law_met"],["_law_k","_law_one"],
 (.cons (.ifs (.not (.blt .isList (.cons (.var 0) .nil)))
 (.cons (.ret (.bl false))
 .nil)
 .nil)
 (.cons (.for_ (.nm 2) (.rng (.blt .len (.cons (.var 0) .nil)))
 (.cons (.ifs (.or (.cmp .notin (.ix (.var 0) (.var 2)) (.var 1)) (.and (.cmp .gt (.var 2) (.int 0)) (.not (.cmp .lt (.ix (.var 0) (.bin .sub (.var 2) (.int 1))) (.ix (.var 0) (.var 2))))))
 (.cons (.ret (.bl false))
 .nil)
 .nil)
 (.cons (.ifs (.or (.not (.blt .isInt (.cons (.ix (.ix (.var 0) (.var 2)) (.int 1)) .nil))) (.blt .isBool (.cons (.ix (.ix (.var 0) (.var 2)) (.int 1)) .nil)))
 (.cons (.ret (.bl false))
 .nil)
 .nil)
 .nil)))
 (.cons (.for_ (.nm 3) (.sq (.var 1))
 (.cons (.ifs (.cmp .notin (.var 3) (.var 0))
 (.cons (.ret (.bl false))
 .nil)
 .nil)
 .nil))
 (.cons (.ret (.bl true))
 .nil)))),false⟩
def d_law:Fd:=⟨"law",["_law_script"],["_law_names_here","_law_ka","_law_met","_law_side","_law_branches","_law_laid","_law_branch","_law_one","_law_leaf_here"],
 (.cons (.asg (.nm 1) (.call 15 (.cons (.var 0) .nil)))
 (.cons (.asg (.tp [2,3]) (.call 21 (.cons (.call 10 (.cons (.var 0) (.cons (.int 12) .nil))) (.cons (.call 14 (.cons (.var 0) .nil)) (.cons (.var 1) .nil)))))
 (.cons (.ifs (.or (.not (.call 22 (.cons (.call 8 (.cons (.str "left") (.cons (.var 2) .nil))) (.cons (.var 3) .nil)))) (.not (.call 22 (.cons (.call 8 (.cons (.str "right") (.cons (.var 2) .nil))) (.cons (.call 18 (.cons (.var 3) .nil)) .nil)))))
 (.cons (.ret (.bl false))
 .nil)
 .nil)
 (.cons (.for_ (.nm 4) (.sq (.lst (.cons (.str "left") (.cons (.str "right") .nil))))
 (.cons (.asg (.nm 5) (.call 6 (.cons (.var 4) (.cons (.var 2) (.cons (.ix (.var 1) (.bin .mod (.call 9 (.cons (.var 0) (.cons (.int 0) .nil))) (.int 4))) .nil)))))
 (.cons (.asg (.nm 6) (.lst .nil))
 (.cons (.for_ (.nm 7) (.sq (.var 5))
 (.cons (.for_ (.nm 8) (.sq (.var 7))
 (.cons (.asg (.nm 6) (.bin .add (.var 6) (.call 8 (.cons (.ix (.var 8) (.int 0)) (.cons (.ix (.var 8) (.int 1)) .nil)))))
 .nil))
 .nil))
 (.cons (.ifs (.and (.cmp .ne (.var 5) (.lst .nil)) (.not (.call 22 (.cons (.call 8 (.cons (.var 4) (.cons (.var 2) .nil))) (.cons (.var 6) .nil)))))
 (.cons (.ret (.bl false))
 .nil)
 .nil)
 .nil)))))
 (.cons (.asg (.nm 9) (.call 20 (.cons (.call 16 (.cons (.bin .mod (.call 9 (.cons (.var 0) (.cons (.int 1) .nil))) (.bin .pow (.int 10) (.int 40))) (.cons (.call 14 (.cons (.var 0) .nil)) (.cons (.var 1) .nil)))) .nil)))
 (.cons (.ifs (.not (.call 22 (.cons (.call 8 (.cons (.str "right") (.cons (.tup (.cons (.str "not") (.cons (.ix (.var 9) (.int 0)) .nil))) .nil))) (.cons (.ix (.var 9) (.int 1)) .nil))))
 (.cons (.ret (.bl false))
 .nil)
 .nil)
 (.cons (.ret (.call 22 (.cons (.call 8 (.cons (.str "right") (.cons (.tup (.cons (.str "if") (.cons (.ix (.var 9) (.int 0)) (.cons (.tup (.cons (.str "no") .nil)) .nil)))) .nil))) (.cons (.ix (.var 9) (.int 1)) .nil))))
 .nil))))))),false⟩
def d_lam0:Fd:=⟨"put_in.<locals>.<lambda>",["term","depth","name"],[],
 (.cons (.ret (.ite (.and (.call 1 (.cons (.var 0) .nil)) (.cmp .eq (.blt .toInt (.cons (.var 0) .nil)) (.var 1))) (.var 2) (.var 0))) .nil),false⟩
def Gd:List Fd:=[d_inside,d_is_place,d_with_terms,d_put_in,d_other_side,d_signed_within,d_parts,d_marks_within,d_marks,d__law_cell,d__law_cells,d__law_letters,d__law_family,d__law_wide,d__law_words,d__law_names,d__law_leaf,d__law_bound,d__law_other,d__law_joined,d__law_marked,d__law_built,d__law_told,d_law]
def Gs:List Fd:=[d_inside,d_is_place,d_with_terms,d_put_in,d_other_side,d_signed_within,d_parts,d_marks_within,d_marks,d__law_cell,d__law_cells,d__law_letters,d__law_family,d__law_wide,d__law_words,d__law_names,d__law_leaf,d__law_bound,d__law_other,d__law_joined,d__law_marked,d__law_built,d__law_told,d_law,d_lam0]
def L0:Lam:=⟨"put_in.<locals>.<lambda>",lamA (rlm (top 6)),lamB (rlm (top 6)),lamS (rlm (top 6)),["term","depth"],["name"]⟩
instance tbs:Tbs:=⟨[(37,"put_in.<locals>.<lambda>")],[(24,L0)]⟩
def gls:List D:=[.tup [.str "yes",.str "no",.str "word"],.tup [.str "all",.str "some"],.tup [.tup [.str "right",.str "and"],.tup [.str "left",.str "or"],.tup [.str "left",.str "if"]]]
def gns:List Str:=["LEAVES","BINDERS","FORKS"]
end P1
end
section
namespace P1
open PySem L2 PP
theorem r_cell (n:Nat) (ns:List Int) (k:Int) (h0:0≤k) (h1:k≤1000):wRun Gs gls (n+1) 9 [.lst (ns.map .int),.int k] fun d=>∃ c:Int,d = .int c:=by
 refine wRun_def d__law_cell rfl rfl rfl ?_;simp only [d__law_cell,init,SI,Nat.reduceAdd,Nat.reduceSub]
 simp only [↓WS,↓WC,ite_true,ite_false,Bool.false_eq_true,decide_eq_true_eq,↓reduceIte]
 have hl:(ns.map D.int).length = ns.length:=List.length_map _
 rw [hl]
 split
 · rename_i h
   obtain ⟨d,hm,e⟩:=at_ok (ds:=ns.map D.int) h0 (by rw [hl];exact h)
   obtain ⟨c,_,rfl⟩:=List.mem_map.mp hm
   exact ⟨_,e,c,rfl⟩
 · refine ⟨mul_r (by decide) (by decide),?_⟩
   split
   · rename_i h
     obtain ⟨d,hm,e⟩:=at_ok (ds:=ns.map D.int) (j:=k * 7 % (ns.length:Int)) (Int.emod_nonneg _ (by omega)) (by rw [hl];exact Int.emod_lt_of_pos _ h)
     obtain ⟨c,_,rfl⟩:=List.mem_map.mp hm
     refine ⟨mul_r (by decide) (by decide),h,_,e,?_⟩
     simp only [↓WS,↓WC,ite_true,ite_false,Bool.false_eq_true,decide_eq_true_eq,↓reduceIte]
     have a1:=Int.emod_nonneg (c * 48271) (show (2147483647:Int)≠0 by decide)
     have a2:=Int.emod_lt_of_pos (c * 48271) (show (0:Int) < 2147483647 by decide)
     exact ⟨mul_r (by decide) (by decide),by decide,mul_r (by decide) (by decide),mul_r (by omega) (by omega),by decide,_,rfl⟩
   · exact ⟨mul_r (by omega) (by omega),by decide,_,rfl⟩
theorem r_wide (n:Nat) (ns:List Int) (k:Int) (h0:0≤k) (h1:k≤900):wRun Gs gls (n+2) 13 [.lst (ns.map .int),.int k] fun d=>∃ c:Int,d = .int c:=by
 refine wRun_def d__law_wide rfl rfl rfl ?_;simp only [d__law_wide,init,SI,Nat.reduceAdd,Nat.reduceSub]
 simp only [↓WS,↓WC,ite_true,ite_false,Bool.false_eq_true,decide_eq_true_eq,↓reduceIte]
 refine wRun_mono (r_cell n ns k h0 (by omega)) ?_
 rintro _ ⟨c,rfl⟩
 simp only [↓WS,↓WC,ite_true,ite_false,Bool.false_eq_true,decide_eq_true_eq,↓reduceIte]
 refine ⟨by decide,by decide,mul_r (by decide) (by decide),wRun_mono (r_cell n ns (k+20) (by omega) (by omega)) ?_⟩
 rintro _ ⟨c2,rfl⟩
 simp only [↓WS,↓WC,ite_true,ite_false,Bool.false_eq_true,decide_eq_true_eq,↓reduceIte]
 exact ⟨by decide,by decide,_,rfl⟩
theorem r_cells (n:Nat) (ns:List Int) (hn:ns.length≤63):wRun Gs gls (n+2) 10 [.lst (ns.map .int),.int 12] fun d=>∃ cs:List Int,d = .lst (cs.map .int)∧12≤cs.length∧cs.length≤63∧∀ c∈cs,0≤c:=by
 refine wRun_def d__law_cells rfl rfl rfl ?_;simp only [d__law_cells,init,SI,Nat.reduceAdd,Nat.reduceSub]
 simp only [↓WS,↓WC,ite_true,ite_false,Bool.false_eq_true,decide_eq_true_eq,↓reduceIte]
 have hl:(ns.map D.int).length = ns.length:=List.length_map _
 rw [hl]
 generalize em:(if (63:Int) < (if (12:Int) > (ns.length:Int) then 12 else (ns.length:Int)) then 63 else (if (12:Int) > (ns.length:Int) then 12 else (ns.length:Int))) = m
 have hm:12≤m∧m≤63:=by
  rw [← em]
  split<;>split<;>omega
 refine ⟨by omega,?_⟩
 refine wComp_each (fun x y=>∃ c:Int,y = .int c∧0≤c) _ ?_ ?_
 · intro x hx
   obtain ⟨i,hi,rfl⟩:=rng_mem hx
   simp only [SI,↓WS,↓WC,ite_true,ite_false,Bool.false_eq_true,decide_eq_true_eq,↓reduceIte]
   refine ⟨trivial,wRun_mono (r_cell n ns _ (by omega) (by omega)) ?_⟩
   rintro _ ⟨c,rfl⟩
   simp only [↓WS,↓WC,ite_true,ite_false,Bool.false_eq_true,decide_eq_true_eq,↓reduceIte]
   exact ⟨by decide,by decide,Int.emod_nonneg _ (by decide),rfl⟩
 · intro ys r
   have:∀ (ds ys:List D),Paired (fun x y=>∃ c:Int,y = D.int c∧0≤c) ds ys→∃ cs:List Int,ys = cs.map .int∧cs.length = ds.length∧∀ c∈cs,0≤c:=by
    intro ds ys r
    induction r with
    | nil=>exact ⟨[],rfl,rfl,by simp⟩
    | cons h t ih =>
      obtain ⟨c,rfl,hc⟩:=h
      obtain ⟨cs,rfl,hl,ha⟩:=ih
      exact ⟨c::cs,rfl,by simp [hl],by simpa [hc] using ha⟩
   obtain ⟨cs,rfl,hl,ha⟩:=this _ _ r
   rw [rng_len] at hl
   refine ⟨by rw [List.length_map];exact small (by omega),cs,rfl,by omega,by omega,ha⟩
def nm (t:Str):Prop:=∃ c r,t.cps.toList = c::r∧97≤c∧c≤122
theorem nm_app {a b:Str} (h:nm a):nm (a++b):=by
 obtain ⟨c,r,e,h1,h2⟩:=h
 refine ⟨c,r++b.cps.toList,?_,h1,h2⟩
 show (a.cps++b.cps).toList = _
 rw [Array.toList_append,e]
 rfl
theorem r_letters (n:Nat) (c:Int) (f l:Str) (hf:0 < f.length) (hf2:f.length≤100) (hl:0 < l.length) (hl2:l.length≤100) (hff:∀ c∈f.cps.toList,97≤c∧c≤122):wRun Gs gls (n+1) 11 [.int c,.str f,.str l] fun d=>∃ t:Str,d = .str t∧t.length≤8∧nm t:=by
 refine wRun_def d__law_letters rfl rfl rfl ?_;simp only [d__law_letters,init,SI,Nat.reduceAdd,Nat.reduceSub]
 simp only [↓WS,↓WC,ite_true,ite_false,Bool.false_eq_true,decide_eq_true_eq,↓reduceIte]
 refine ⟨small (by omega),by omega,small (by omega),?_⟩
 obtain ⟨u,hu,e⟩:=at_ok (ds:=f.cps.toList) (j:=c % (f.length:Int)) (Int.emod_nonneg _ (by omega)) (by rw [str_len];exact Int.emod_lt_of_pos _ (by omega))
 refine ⟨u,e,small (by omega),⟨by omega,by omega⟩,by decide,⟨by omega,by omega⟩,?_⟩
 refine wFor_inv (fun xs δ=>∃ (c:Int) (t:Str) (s:Sl),δ = [.val (.int c),.val (.str f),.val (.str l),.val (.str t),s]∧t.length+xs.length≤8∧nm t) ?_ ?_ _ _ ?_
 · rintro x xs δ ⟨c,t,s,rfl,ht,hn⟩
   rw [List.length_cons] at ht
   simp only [↓WS,↓WC,ite_true,ite_false,Bool.false_eq_true,decide_eq_true_eq,↓reduceIte]
   obtain ⟨v,_,e⟩:=at_ok (ds:=l.cps.toList) (j:=c / 8 % (l.length:Int)) (Int.emod_nonneg _ (by omega)) (by rw [str_len];exact Int.emod_lt_of_pos _ (by omega))
   have e1:(⟨#[v]⟩:Str).length = 1:=rfl
   exact ⟨by decide,small (by omega),by omega,small (by omega),v,e,small (by omega),small (by omega),⟨by omega,by omega⟩,_,_,_,rfl,by rw [str_app,e1];omega,nm_app hn⟩
 · rintro δ ⟨c,t,s,rfl,ht,hn⟩
   simp only [↓WS,↓WC,ite_true,ite_false,Bool.false_eq_true,decide_eq_true_eq,↓reduceIte]
   exact ⟨t,rfl,by simpa using ht,hn⟩
 · refine ⟨_,_,_,rfl,?_,u,[],rfl,hff u hu⟩
   rw [rng_len]
   have e1:(⟨#[u]⟩:Str).length = 1:=rfl
   omega
end P1
end
section
namespace P1
open PySem L2 PP
theorem strs_of {P:D→D→Prop} (p:Str→Prop) (hP:∀ x y,P x y→∃ t:Str,y = .str t∧p t):∀ (ds ys:List D),Paired P ds ys→∃ ts:List Str,ys = ts.map .str∧ts.length = ds.length∧∀ t∈ts,p t:=by
 intro ds ys r
 induction r with
 | nil=>exact ⟨[],rfl,rfl,by simp⟩
 | cons h t ih =>
   obtain ⟨c,rfl,hc⟩:=hP _ _ h
   obtain ⟨cs,rfl,hl,ha⟩:=ih
   exact ⟨c::cs,rfl,by simp [hl],by simpa [hc] using ha⟩
theorem rep_len (x:Str) (n:Nat):(repS x n).length = n * x.length:=by
 show ((List.replicate n x.cps.toList).flatten.toArray).size = n * x.cps.size
 rw [List.size_toArray,List.length_flatten]
 simp
theorem nm_rep {f:Str} (hf:nm f) (n:Nat) (a:Str) (ha:nm a):nm (repS f n++a):=by
 cases n with
 | zero =>
   obtain ⟨c,r,e,h⟩:=ha
   refine ⟨c,r,?_,h⟩
   show ((repS f 0).cps++a.cps).toList = _
   rw [Array.toList_append,e]
   rfl
 | succ n =>
   refine nm_app ?_
   obtain ⟨c,r,e,h⟩:=hf
   refine ⟨c,r++(List.replicate n f.cps.toList).flatten,?_,h⟩
   show (List.replicate (n+1) f.cps.toList).flatten.toArray.toList = _
   rw [List.replicate_succ,List.flatten_cons,e]
   simp
theorem az:∀ c∈("abcdefghijklmnopqrstuvwxyz":Str).cps.toList,97≤c∧c≤122:=by decide +kernel
theorem r_family (n:Nat) (c:Int) (f:Str) (hf:f.length = 1) (hn:nm f):wRun Gs gls (n+1) 12 [.int c,.str f] fun d=>∃ ts:List Str,d = .lst (ts.map .str)∧ts.length = 4∧∀ t∈ts,t.length≤8∧nm t:=by
 refine wRun_def d__law_family rfl rfl rfl ?_;simp only [d__law_family,init,SI,Nat.reduceAdd,Nat.reduceSub]
 try simp only [↓WS,↓WC,ite_true,ite_false,Bool.false_eq_true,decide_eq_true_eq,↓reduceIte]
 have a1:=Int.emod_nonneg c (show (7:Int)≠0 by decide)
 have a2:=Int.emod_lt_of_pos c (show (0:Int) < 7 by decide)
 have a3:=Int.emod_nonneg (c / 7) (show (2+c % 7:Int)≠0 by omega)
 have a4:=Int.emod_lt_of_pos (c / 7) (show (0:Int) < 2+c % 7 by omega)
 refine ⟨by decide,by decide,by omega,by decide,?_⟩
 refine wComp_each (fun x y=>∃ t:Str,y = .str t∧t.length≤8∧nm t) _ ?_ ?_
 · intro x hx
   obtain ⟨u,hu,rfl⟩:=List.mem_map.mp hx
   have e1:(⟨#[u]⟩:Str).length = 1:=rfl
   have hu':∀ u∈("bdgh":Str).cps.toList,97≤u∧u≤122:=by decide
   have nu:nm ⟨#[u]⟩:=⟨u,[],rfl,hu' u hu⟩
   simp only [SI,↓WS,↓WC,ite_true,ite_false,Bool.false_eq_true,decide_eq_true_eq,↓reduceIte]
   refine ⟨trivial,⟨by omega,by omega,by omega⟩,small ?_,⟨by omega,by omega,by omega⟩,small ?_,⟨_,rfl,?_,nm_app (nm_rep hn _ _ nu)⟩,rfl⟩
   · rw [rep_len,hf,e1];omega
   · rw [str_app,rep_len,rep_len,hf,e1];omega
   · rw [str_app,str_app,rep_len,rep_len,hf,e1];omega
 · intro ys r
   obtain ⟨ts,rfl,hl,ha⟩:=strs_of (fun t=>t.length≤8∧nm t) (fun _ _ h=>h) _ _ r
   refine ⟨?_,ts,rfl,hl,ha⟩
   rw [List.length_map,hl]
   exact small (by decide)
theorem nmq:nm "q":=⟨113,[],by decide,by decide,by decide⟩
theorem nmz:nm "z":=⟨122,[],by decide,by decide,by decide⟩
theorem r_words (n:Nat) (ns:List Int):wRun Gs gls (n+3) 14 [.lst (ns.map .int)] fun d=>∃ ts:List Str,d = .lst (ts.map .str)∧ts.length = 4:=by
 refine wRun_def d__law_words rfl rfl rfl ?_;simp only [d__law_words,init,SI,Nat.reduceAdd,Nat.reduceSub]
 try simp only [↓WS,↓WC,ite_true,ite_false,Bool.false_eq_true,decide_eq_true_eq,↓reduceIte]
 refine wRun_mono (r_cell (n+1) ns 64 (by decide) (by decide)) ?_
 rintro _ ⟨c,rfl⟩
 try simp only [↓WS,↓WC,ite_true,ite_false,Bool.false_eq_true,decide_eq_true_eq,↓reduceIte]
 refine ⟨by decide,?_⟩
 split
 · refine wRun_mono (r_cell (n+1) ns 64 (by decide) (by decide)) ?_
   rintro _ ⟨c,rfl⟩
   try simp only [↓WS,↓WC,ite_true,ite_false,Bool.false_eq_true,decide_eq_true_eq,↓reduceIte]
   exact ⟨by decide,wRun_mono (r_family (n+1) _ _ rfl nmq) fun d ⟨ts,h1,h2,_⟩=>⟨ts,h1,h2⟩⟩
 · simp only [List.length_nil,↓WS,↓WC,ite_true,ite_false,Bool.false_eq_true,decide_eq_true_eq,↓reduceIte]
   refine ⟨by decide,by decide,?_⟩
   refine wFor_inv (fun xs δ=>∃ (ts:List Str) (s t:Sl),δ = [.val (.lst (ns.map .int)),.val (.str "abcdefghijklmnopqrstuvwxyz"),.own (ts.map .str),s,t]∧ts.length+xs.length = 4∧∀ x∈xs,∃ i:Int,x = .int i∧0≤i∧i < 4) ?_ ?_ _ _ ?_
   · rintro x xs δ ⟨ts,s,t,rfl,hl,hx⟩
     obtain ⟨i,rfl,i0,i1⟩:=hx _ List.mem_cons_self
     rw [List.length_cons] at hl
     try simp only [↓WS,↓WC,ite_true,ite_false,Bool.false_eq_true,decide_eq_true_eq,↓reduceIte]
     refine wRun_mono (r_wide n ns _ (by omega) (by omega)) ?_
     rintro _ ⟨c,rfl⟩
     try simp only [↓WS,↓WC,ite_true,ite_false,Bool.false_eq_true,decide_eq_true_eq,↓reduceIte]
     refine wRun_mono (r_letters (n+1) c _ _ (by decide) (by decide) (by decide) (by decide) az) ?_
     rintro _ ⟨u,rfl,hu,hu2⟩
     simp only [List.length_cons,List.length_nil,↓WS,↓WC,ite_true,ite_false,Bool.false_eq_true,decide_eq_true_eq,↓reduceIte]
     refine ⟨by decide,by unfold dep;decide,?_⟩
     have fin:∀ v:Str,(List.map D.str ts).length < sizeLine∧∃ (ts':List Str) (s t:Sl),([.val (.lst (ns.map .int)),.val (.str "abcdefghijklmnopqrstuvwxyz"),.own (List.map D.str ts++[.str v]),.val (.int i),.val (.str v)]:PP.Loc) = [.val (.lst (ns.map .int)),.val (.str "abcdefghijklmnopqrstuvwxyz"),.own (ts'.map .str),s,t]∧ts'.length+xs.length = 4∧∀ x∈xs,∃ i:Int,x = .int i∧0≤i∧i < 4:=fun v=>by
      refine ⟨?_,ts++[v],_,_,by rw [List.map_append];rfl,by simp;omega,fun x h=>hx x (List.mem_cons_of_mem _ h)⟩
      rw [List.length_map]
      exact Nat.lt_of_le_of_lt (show ts.length≤1000 by omega) (by decide)
     split
     · refine ⟨small ?_,fin _⟩
       have e1:("x":Str).length = 1:=by decide
       omega
     · exact fin _
   · rintro δ ⟨ts,s,t,rfl,hl,_⟩
     simp only [↓WS,↓WC,ite_true,ite_false,Bool.false_eq_true,decide_eq_true_eq,↓reduceIte]
     exact ⟨ts,rfl,by simpa using hl⟩
   · refine ⟨[],.no,.no,rfl,rfl,fun x hx=>?_⟩
     obtain ⟨i,hi,rfl⟩:=rng_mem hx
     exact ⟨_,rfl,by omega,by have:(4:Int).toNat = 4:=rfl;omega⟩
theorem r_names (n:Nat) (ns:List Int):wRun Gs gls (n+3) 15 [.lst (ns.map .int)] fun d=>∃ ts:List Str,d = .lst (ts.map .str)∧ts.length = 4∧∀ t∈ts,t.length≤8∧nm t:=by
 refine wRun_def d__law_names rfl rfl rfl ?_;simp only [d__law_names,init,SI,Nat.reduceAdd,Nat.reduceSub]
 try simp only [↓WS,↓WC,ite_true,ite_false,Bool.false_eq_true,decide_eq_true_eq,↓reduceIte]
 refine wRun_mono (r_cell (n+1) ns 69 (by decide) (by decide)) ?_
 rintro _ ⟨c,rfl⟩
 try simp only [↓WS,↓WC,ite_true,ite_false,Bool.false_eq_true,decide_eq_true_eq,↓reduceIte]
 refine ⟨by decide,?_⟩
 split
 · exact ⟨by decide,["n0","n1","n2","p"],rfl,rfl,fun t h=>by
    simp only [List.mem_cons,List.not_mem_nil,or_false] at h
    rcases h with rfl | rfl | rfl | rfl
    · exact ⟨by decide,110,[48],by decide,by decide,by decide⟩
    · exact ⟨by decide,110,[49],by decide,by decide,by decide⟩
    · exact ⟨by decide,110,[50],by decide,by decide,by decide⟩
    · exact ⟨by decide,112,[],by decide,by decide,by decide⟩⟩
 · refine wRun_mono (r_cell (n+1) ns 69 (by decide) (by decide)) ?_
   rintro _ ⟨c,rfl⟩
   try simp only [↓WS,↓WC,ite_true,ite_false,Bool.false_eq_true,decide_eq_true_eq,↓reduceIte]
   refine ⟨by decide,?_⟩
   split
   · refine wRun_mono (r_cell (n+1) ns 69 (by decide) (by decide)) ?_
     rintro _ ⟨c,rfl⟩
     try simp only [↓WS,↓WC,ite_true,ite_false,Bool.false_eq_true,decide_eq_true_eq,↓reduceIte]
     exact ⟨by decide,wRun_mono (r_family (n+1) _ _ rfl nmz) fun d h=>h⟩
   · refine ⟨by decide,?_⟩
     refine wComp_each (fun x y=>∃ t:Str,y = .str t∧t.length≤8∧nm t) _ ?_ ?_
     · intro x hx
       obtain ⟨i,hi,rfl⟩:=rng_mem hx
       have hi':i < 4:=hi
       simp only [SI,↓WS,↓WC,ite_true,ite_false,Bool.false_eq_true,decide_eq_true_eq,↓reduceIte]
       refine ⟨trivial,wRun_mono (r_wide n ns _ (by omega) (by omega)) ?_⟩
       rintro _ ⟨c,rfl⟩
       try simp only [↓WS,↓WC,ite_true,ite_false,Bool.false_eq_true,decide_eq_true_eq,↓reduceIte]
       refine ⟨by decide,wRun_mono (r_letters (n+1) c _ _ (by decide) (by decide) (by decide) (by decide) az) ?_⟩
       rintro _ ⟨u,rfl,hu,hu2⟩
       exact ⟨⟨u,rfl,hu,hu2⟩,rfl⟩
     · intro ys r
       obtain ⟨ts,rfl,hl,ha⟩:=strs_of (fun t=>t.length≤8∧nm t) (fun _ _ h=>h) _ _ r
       have e4:ts.length = 4:=by rw [hl,rng_len];rfl
       refine ⟨?_,ts,rfl,e4,ha⟩
       rw [List.length_map,e4]
       exact small (by decide)
end P1
end
section
namespace P1
open PySem L2 PP
inductive U | neg | all | ex
inductive B | and | or | imp
def U.s:U→Str | .neg=>"not" | .all=>"all" | .ex=>"some"
def B.s:B→Str | .and=>"and" | .or=>"or" | .imp=>"if"
def up:U→Int | .neg=>0 | _=>1
inductive F where
 | yes | no | word (w:Str) (ts:List Str) | un (u:U) (a:F) | bi (b:B) (x y:F)
def enc:F→D
 | .yes=>.tup [.str "yes"]
 | .no=>.tup [.str "no"]
 | .word w ts=>.tup [.str "word",.str w,.tup (ts.map .str)]
 | .un u a=>.tup [.str u.s,enc a]
 | .bi b x y=>.tup [.str b.s,enc x,enc y]
def sg:F→Nat
 | .un _ a=>sg a+1
 | .bi _ x y=>sg x+sg y+1
 | _=>0
def ht:F→Nat
 | .un _ a=>ht a+1
 | .bi _ x y=>max (ht x) (ht y)+1
 | _=>1
def okF:F→Prop
 | .word _ ts=>ts.length≤1000
 | .un _ a=>okF a
 | .bi _ x y=>okF x∧okF y
 | _=>True
theorem ht_sg:∀ A:F,ht A≤sg A+1
 | .yes | .no | .word _ _=>by simp [ht,sg]
 | .un u a=>by have:=ht_sg a;simp only [ht,sg];omega
 | .bi b x y=>by have:=ht_sg x;have:=ht_sg y;simp only [ht,sg];omega
def tms:F→List Str
 | .word _ ts=>ts
 | .un _ a=>tms a
 | .bi _ x y=>tms x++tms y
 | _=>[]
def mapT (f:Str→Int→Str):F→Int→F
 | .word w ts,k=>.word w (ts.map fun t=>f t k)
 | .un u a,k=>.un u (mapT f a (k+up u))
 | .bi b x y,k=>.bi b (mapT f x k) (mapT f y k)
 | A,_=>A
theorem mapT_sg (f:Str→Int→Str):∀ (A:F) (k:Int),sg (mapT f A k) = sg A
 | .yes,_ | .no,_ | .word _ _,_=>rfl
 | .un u a,k=>by simp only [mapT,sg,mapT_sg f a]
 | .bi b x y,k=>by simp only [mapT,sg,mapT_sg f x,mapT_sg f y]
theorem mapT_ok (f:Str→Int→Str):∀ (A:F) (k:Int),okF A→okF (mapT f A k)
 | .yes,_,h | .no,_,h=>h
 | .word _ ts,_,h=>by
   have h:ts.length≤1000:=h
   show (ts.map _).length≤1000
   rw [List.length_map];exact h
 | .un u a,k,h=>mapT_ok f a _ h
 | .bi b x y,k,h=>⟨mapT_ok f x k h.1,mapT_ok f y k h.2⟩
mutual
theorem lf_strs:∀ ts:List Str,lfL (ts.map D.str) = true
 | []=>by unfold lfL;rfl
 | t::ts=>by rw [List.map_cons];unfold lfL lf;exact lf_strs ts
end
theorem lf_enc:∀ A:F,lf (enc A) = true
 | .yes | .no=>by unfold enc;decide +kernel
 | .word w ts=>by unfold enc;simp only [lf,lfL,lf_strs,Bool.and_self]
 | .un u a=>by unfold enc;simp only [lf,lfL,lf_enc a,Bool.and_self]
 | .bi b x y=>by unfold enc;simp only [lf,lfL,lf_enc x,lf_enc y,Bool.and_self]
theorem dep_str (x:Str):dep (.str x) = 0:=by unfold dep;rfl
def lvs:List D:=[.str "yes",.str "no",.str "word"]
def bds:List D:=[.str "all",.str "some"]
theorem wE_g0 {f:Nat→List D→Option D} {h:Nat→Bool} {δ:PP.Loc} {Q:D→PP.Loc→Prop}:wE ⟨f,gls,h⟩ (.glob 0) δ Q↔Q (.tup lvs) δ:=by
 rw [wE_glob]
 exact ⟨fun ⟨_,e,q⟩=>by cases e;exact q,fun q=>⟨_,rfl,q⟩⟩
theorem wE_g1 {f:Nat→List D→Option D} {h:Nat→Bool} {δ:PP.Loc} {Q:D→PP.Loc→Prop}:wE ⟨f,gls,h⟩ (.glob 1) δ Q↔Q (.tup bds) δ:=by
 rw [wE_glob]
 exact ⟨fun ⟨_,e,q⟩=>by cases e;exact q,fun q=>⟨_,rfl,q⟩⟩
theorem lv_u (u:U):(lvs.any fun y=>eqD y (.str u.s)) = false:=by cases u<;>decide +kernel
theorem lv_b (u:B):(lvs.any fun y=>eqD y (.str u.s)) = false:=by cases u<;>decide +kernel
theorem eq_ww:(("word":Str) == "word") = true:=by decide +kernel
theorem eq_uw (u:U):(u.s == "word") = false:=by cases u<;>decide +kernel
theorem eq_bw (u:B):(u.s == "word") = false:=by cases u<;>decide +kernel
theorem wSl_tl {a:D} {ds:List D} {Q:D→Prop}:wSl (.tup (a::ds)) (some 1) none Q↔Q (.tup ds):=by
 have e1:HT.sIx (a::ds).length 0 (some 1) = 1:=by
  rw [show (1:Int) = ((1:Nat):Int) from rfl,HT.sIx_nat]
  simp
 have e2:HT.sIx (a::ds).length (a::ds).length none = (a::ds).length:=rfl
 unfold wSl slD
 dsimp only
 rw [e1,e2,if_neg (by simp)]
 unfold cutD
 rw [e1,e2]
 simp
theorem r_inside (n:Nat) (a:D) (k:Str) (ds:List D) (ha:a = .str k):PP.run Gs gls (n+1) 0 [.tup (a::ds)] = some (if (lvs.any fun y=>eqD y (.str k)) = true then .tup [] else .tup ds):=by
 subst ha
 apply wRun_out
 refine wRun_def d_inside rfl rfl rfl ?_;simp only [d_inside,init,SI,Nat.reduceAdd,Nat.reduceSub]
 simp only [↓wE_g0,↓wSl_tl,dep_str,↓WS,↓WC,ite_true,ite_false,Bool.false_eq_true,decide_eq_true_eq,↓reduceIte]
 split<;>simp [wSl_tl]
def inn:U→Int→Int | .neg,k=>k | .all,k=>k+1 | .ex,k=>k+1
theorem inn_up (u:U) (k:Int):inn u k = k+up u:=by cases u;exact (Int.add_zero k).symm;rfl;rfl
def Lm (kk:Nat) (cs:List D) (f:Str→Int→Str) (p:Str→Prop):Prop:=∀ (n:Nat) (t:Str) (k:Int),p t→0≤k→k < 1000→PP.run Gs gls (n+2) kk (.str t::.int k::cs) = some (.str (f t k))
theorem r_with {kk:Nat} {cs:List D} {f:Str→Int→Str} {p:Str→Prop} (hm:Lm kk cs f p):∀ (A:F) (n:Nat) (k:Int),ht A+2≤n→0≤k→k+ht A < 1000→okF A→(∀ t∈tms A,p t)→PP.run Gs gls n 2 [enc A,.int k,.fn kk cs] = some (enc (mapT f A k))
 | .yes,n+3,k,h,h0,h1,o,hp=>by kernel_rfl
 | .no,n+3,k,h,h0,h1,o,hp=>by kernel_rfl
 | .word w ts,n+3,k,h,h0,h1,o,hp=>by
   have o':ts.length≤1000:=o
   apply wRun_out
   unfold enc
   refine wRun_defF d_with_terms rfl rfl rfl rfl ?_;simp only [d_with_terms,initF,List.dropLast,SI,Nat.reduceAdd,Nat.reduceSub]
   simp only [eq_ww,List.length_cons,List.length_nil,↓WS,↓WC,ite_true,ite_false,Bool.false_eq_true,decide_eq_true_eq,↓reduceIte]
   refine wComp_map D.str (fun _=>true) (fun t=>.str (f t k)) ts ?_ ?_
   · intro t ht'
     simp only [SI,↓WS,↓WC,ite_true,ite_false,Bool.false_eq_true,decide_eq_true_eq,↓reduceIte]
     refine ⟨trivial,by simp [lfL,lf],?_⟩
     rw [wRun_eq (hm n t k (hp t ht') h0 (by simp only [ht] at h1;omega))]
     exact ⟨by simp [lf],rfl,rfl⟩
   · have e:(ts.filter fun _=>true) = ts:=List.filter_eq_self.mpr fun _ _=>rfl
     rw [e]
     refine ⟨by rw [List.length_map];exact small o',?_⟩
     refine ⟨by decide,?_⟩
     show D.tup [_,_,D.tup (ts.map fun t=>D.str (f t k))] = D.tup [.str "word",.str w,.tup ((ts.map fun t=>f t k).map .str)]
     rw [List.map_map]
     rfl
 | .un u a,n+3,k,h,h0,h1,o,hp=>by
   have hu:0≤up u∧up u≤1:=by cases u<;>decide
   have ih:=r_with hm a (n+2) (inn u k) (by simp only [ht] at h;omega) (by rw [inn_up];omega) (by rw [inn_up];simp only [ht] at h1;omega) o hp
   apply wRun_out
   rw [show enc (.un u a) = .tup [.str u.s,enc a] from rfl]
   refine wRun_defF d_with_terms rfl rfl rfl rfl ?_;simp only [d_with_terms,initF,List.dropLast,SI,Nat.reduceAdd,Nat.reduceSub]
   refine wSs_run 3 [.val (.tup [.str u.s,enc a]),.val (.int k),.fnc kk cs,.val (.str u.s),.val (.int (inn u k))] (by cases u<;>kernel_rfl) ?_
   simp only [dropS,dep_str,lv_u,↓wRun_eq (r_inside _ _ _ _ rfl),↓wComp_nil,↓wComp_cons,SI,List.take,Nat.reduceAdd,↓wRun_eq ih,↓WS,↓WC,ite_true,ite_false,Bool.false_eq_true,decide_eq_true_eq,↓reduceIte]
   refine ⟨by decide,rfl,by decide,⟨by simp,by decide⟩,?_⟩
   show _ = D.tup [_,enc (mapT f a (k+up u))]
   rw [inn_up]
 | .bi b x y,n+3,k,h,h0,h1,o,hp=>by
   have ih1:=r_with hm x (n+2) k (by simp only [ht] at h;omega) (by omega) (by simp only [ht] at h1;omega) o.1 fun t z=>hp t (List.mem_append_left _ z)
   have ih2:=r_with hm y (n+2) k (by simp only [ht] at h;omega) (by omega) (by simp only [ht] at h1;omega) o.2 fun t z=>hp t (List.mem_append_right _ z)
   apply wRun_out
   rw [show enc (.bi b x y) = .tup [.str b.s,enc x,enc y] from rfl]
   refine wRun_defF d_with_terms rfl rfl rfl rfl ?_;simp only [d_with_terms,initF,List.dropLast,SI,Nat.reduceAdd,Nat.reduceSub]
   refine wSs_run 3 [.val (.tup [.str b.s,enc x,enc y]),.val (.int k),.fnc kk cs,.val (.str b.s),.val (.int k)] (by cases b<;>kernel_rfl) ?_
   simp only [dropS,dep_str,lv_b,↓wRun_eq (r_inside _ _ _ _ rfl),↓wComp_nil,↓wComp_cons,SI,List.take,Nat.reduceAdd,↓wRun_eq ih1,↓wRun_eq ih2,↓WS,↓WC,ite_true,ite_false,Bool.false_eq_true,decide_eq_true_eq,↓reduceIte]
   exact ⟨by decide,rfl,rfl,by decide,⟨by simp,by decide⟩,rfl⟩
 | A,0,k,h,h0,h1,o,hp=>by omega
 | A,1,k,h,h0,h1,o,hp=>by omega
 | A,2,k,h,h0,h1,o,hp=>by cases A<;>simp only [ht] at h<;>omega
theorem log_small {i:Int} (h0:0≤i) (h1:i < 1000):i.natAbs.log2 < 1920:=by
 have:i.natAbs < 1000:=by omega
 rcases Nat.eq_zero_or_pos i.natAbs with e | e
 · rw [e];decide
 · have:=(Nat.log2_lt (k:=10) (Nat.pos_iff_ne_zero.mp e)).mpr (by omega)
   omega
def bf (nm t:Str) (k:Int):Str:=if (t == nm) = true then toString k else t
def isN (t:Str):Bool:=!(decide (t.length > 0) && t.cps.all Unicode.isDigit)
theorem isN_nm {t:Str} (h:nm t):isN t = true:=by
 obtain ⟨c,r,e,h1,h2⟩:=h
 have hc:Unicode.isDigit c = false:=by
  have:∀ c:Nat,c < 123→97≤c→Unicode.isDigit c = false:=by decide +kernel
  exact this c (by omega) h1
 have:t.cps.all Unicode.isDigit = false:=by
  rw [← Array.all_toList,e]
  simp [hc]
 unfold isN
 rw [this]
 simp
def pl (j:Int):Str:=toString j
theorem pl_digits (m:Nat):∀ c∈(pl (m:Int)).cps.toList,48≤c∧c≤57:=fun c hc=>by
 unfold pl at hc
 rw [PySem.W.KIN.signs_num] at hc
 obtain ⟨ch,hch,e⟩:=List.mem_map.mp hc
 have r:=PyProof.Rows.digit_range (Nat.isDigit_of_mem_toDigits (by decide) (by decide) hch)
 rw [← e]
 exact r
theorem pl_read {j:Int} (h0:0≤j) (h1:j < 1000):PySem.intText? (pl j) = some j:=PySem.W.KIN.num_reads h0 (by omega)
theorem pl_len {j:Int} (h0:0≤j) (h1:j < 1000):(pl j).length≤640:=Nat.le_trans (PySem.W.KT.len_num h0 (by omega)) (by decide)
theorem pl_isN {j:Int} (h0:0≤j):isN (pl j) = false:=by
 obtain ⟨m,rfl⟩:=Int.eq_ofNat_of_zero_le h0
 have h1:(pl (m:Int)).cps.all Unicode.isDigit = true:=by
  rw [← Array.all_toList,List.all_eq_true]
  intro c hc
  have:∀ c:Nat,c < 58→48≤c→Unicode.isDigit c = true:=by decide +kernel
  obtain ⟨a,b⟩:=pl_digits m c hc
  exact this c (by omega) a
 have h2:(pl (m:Int)).length > 0:=by
  have:(pl (m:Int)).cps.toList≠[]:=by
   unfold pl
   rw [PySem.W.KIN.signs_num]
   intro e
   have h:=PySem.toDigits_len_ge 10 m
   rw [List.map_eq_nil_iff.mp e] at h
   exact absurd h (by decide)
  rw [← str_len]
  exact List.length_pos_iff.mpr this
 unfold isN
 rw [h1,decide_eq_true h2]
 rfl
def Pt (t:Str):Prop:=isN t = true∨∃ j:Int,0≤j∧j < 1000∧t = pl j
def pf (new t:Str) (k:Int):Str:=if isN t = false∧PySem.intText? t = some k then new else t
theorem r_isp (n:Nat) (t:Str):PP.run Gs gls (n+1) 1 [.str t] = some (.bl (!isN t)):=by
 apply wRun_out
 refine wRun_def d_is_place rfl rfl rfl ?_;simp only [d_is_place,init,SI,Nat.reduceAdd,Nat.reduceSub]
 simp only [↓wE_isdig,↓WS,↓WC,ite_true,ite_false,Bool.false_eq_true,decide_eq_true_eq,↓reduceIte]
 simp [isN]
theorem lm_pf (new:Str):Lm 24 [.str new] (pf new) Pt:=by
 intro n t k hp h0 h1
 apply wRun_out
 refine wRun_def d_lam0 rfl rfl rfl ?_;simp only [d_lam0,init,SI,Nat.reduceAdd,Nat.reduceSub]
 simp only [↓wRun_eq (r_isp _ _),↓WS,↓WC,ite_true,ite_false,Bool.false_eq_true,decide_eq_true_eq,↓reduceIte]
 unfold pf
 rcases hp with h | ⟨j,j0,j1,rfl⟩
 · simp [h]
 · have e1:=pl_isN j0
   have e2:=pl_read j0 j1
   simp only [e1,Bool.not_false,↓wBlt_intS,e2,↓WS,↓WC,ite_true,ite_false,Bool.false_eq_true,decide_eq_true_eq,↓reduceIte]
   refine ⟨pl_len j0 j1,j,rfl,?_⟩
   (try simp only [↓WS,↓WC,ite_true,ite_false,Bool.false_eq_true,decide_eq_true_eq,↓reduceIte])
   split
   · rename_i h
     rw [if_pos ⟨trivial,by rw [h]⟩]
   · rename_i h
     rw [if_neg fun z=>h (Option.some.inj z.2)]
theorem r_put_in (A:F) (new:Str) (n:Nat) (h:ht A+2≤n) (h1:ht A < 1000) (o:okF A) (hp:∀ t∈tms A,Pt t):PP.run Gs gls (n+1) 3 [enc A,.str new] = some (enc (mapT (pf new) A 0)):=by
 have r:=r_with (lm_pf new) A n 0 h (by decide) (by omega) o hp
 apply wRun_out
 refine wRun_def d_put_in rfl rfl rfl ?_;simp only [d_put_in,init,SI,Nat.reduceAdd,Nat.reduceSub]
 simp only [flat,List.cons_append,List.nil_append,↓wRun_eq r,lf_enc,↓WS,↓WC,ite_true,ite_false,Bool.false_eq_true,decide_eq_true_eq,↓reduceIte]
 exact ⟨trivial,rfl,trivial,trivial⟩
end P1
end
section
namespace P1
open PySem L2 PP
def sd (L:Bool):Str:=if L then "left" else "right"
abbrev M:=Bool × Str × Nat
def mkD (m:M):D:=.tup [.str m.2.1,.int m.2.2,.str (sd m.1)]
def flp (m:M):M:=(!m.1,m.2)
def mks:Bool→F→List M
 | L,.word w ts=>[(L,w,ts.length)]
 | L,.un .neg a=>mks (!L) a
 | L,.un .all a=>mks L a
 | L,.un .ex a=>mks L a
 | L,.bi .imp x y=>mks (!L) x++mks L y
 | L,.bi .and x y=>mks L x++mks L y
 | L,.bi .or x y=>mks L x++mks L y
 | _,_=>[]
theorem mks_flp:∀ (A:F) (L:Bool),mks (!L) A = (mks L A).map flp
 | .yes,_ | .no,_=>rfl
 | .word w ts,L=>rfl
 | .un .neg a,L=>mks_flp a (!L)
 | .un .all a,L=>mks_flp a L
 | .un .ex a,L=>mks_flp a L
 | .bi .imp x y,L=>by simp only [mks,List.map_append,mks_flp x (!L),mks_flp y L]
 | .bi .and x y,L=>by simp only [mks,List.map_append,mks_flp x L,mks_flp y L]
 | .bi .or x y,L=>by simp only [mks,List.map_append,mks_flp x L,mks_flp y L]
theorem mks_len:∀ (A:F) (L:Bool),(mks L A).length≤sg A+1
 | .yes,_ | .no,_=>by simp [mks]
 | .word w ts,L=>by simp [mks]
 | .un .neg a,L=>by have:=mks_len a (!L);simp only [mks,sg];omega
 | .un .all a,L=>by have:=mks_len a L;simp only [mks,sg];omega
 | .un .ex a,L=>by have:=mks_len a L;simp only [mks,sg];omega
 | .bi .imp x y,L=>by have:=mks_len x (!L);have:=mks_len y L;simp only [mks,sg,List.length_append];omega
 | .bi .and x y,L=>by have:=mks_len x L;have:=mks_len y L;simp only [mks,sg,List.length_append];omega
 | .bi .or x y,L=>by have:=mks_len x L;have:=mks_len y L;simp only [mks,sg,List.length_append];omega
theorem mks_map (f:Str→Int→Str):∀ (A:F) (L:Bool) (k:Int),mks L (mapT f A k) = mks L A
 | .yes,_,_ | .no,_,_=>rfl
 | .word w ts,L,k=>by simp only [mapT,mks,List.length_map]
 | .un .neg a,L,k=>mks_map f a (!L) _
 | .un .all a,L,k=>mks_map f a L _
 | .un .ex a,L,k=>mks_map f a L _
 | .bi .imp x y,L,k=>by simp only [mapT,mks,mks_map f x,mks_map f y]
 | .bi .and x y,L,k=>by simp only [mapT,mks,mks_map f x,mks_map f y]
 | .bi .or x y,L,k=>by simp only [mapT,mks,mks_map f x,mks_map f y]
def inC (ws:List Str) (A:F):Prop:=∀ m∈mks true A,m.2.1∈ws∧m.2.2≤3
theorem inC_any {ws:List Str} {A:F} (h:inC ws A) (L:Bool):∀ m∈mks L A,m.2.1∈ws∧m.2.2≤3:=fun m hm=>by
 cases L with
 | true=>exact h m hm
 | false =>
   rw [show mks false A = (mks true A).map flp from mks_flp A true] at hm
   obtain ⟨m',h',rfl⟩:=List.mem_map.mp hm
   exact h m' h'
theorem at_strs {ts:List Str} {j:Int} (h0:0≤j) (h1:j < ts.length):∃ t:Str,t∈ts∧atI (ts.map D.str) j = some (.str t):=by
 obtain ⟨d,hm,e⟩:=at_ok (ds:=ts.map D.str) h0 (by rw [List.length_map];exact h1)
 obtain ⟨t,ht,rfl⟩:=List.mem_map.mp hm
 exact ⟨t,ht,e⟩
def WF (nms:List Str):F→Int→Prop
 | .word _ ts,d=>∀ t∈ts,t∈nms∨∃ j:Int,0≤j∧j < d∧t = pl j
 | .un u a,d=>WF nms a (d+up u)
 | .bi _ x y,d=>WF nms x d∧WF nms y d
 | _,_=>True
theorem up_01 (u:U):0≤up u∧up u≤1:=by cases u<;>decide
theorem wf_bound {nms:List Str} {nm:Str}:∀ {A:F} {d:Int},0≤d→WF nms A d→WF nms (mapT (bf nm) A d) (d+1)
 | .yes,_,_,_ | .no,_,_,_=>trivial
 | .word w ts,d,h0,h=>fun t ht=>by
   obtain ⟨t',ht',rfl⟩:=List.mem_map.mp ht
   unfold bf
   split
   · exact .inr ⟨d,h0,by omega,rfl⟩
   · rcases h t' ht' with z | ⟨j,j0,j1,z⟩
     · exact .inl z
     · exact .inr ⟨j,j0,by omega,z⟩
 | .un u a,d,h0,h=>by
   have:=up_01 u
   have r:=wf_bound (nm:=nm) (A:=a) (d:=d+up u) (by omega) h
   show WF nms (mapT (bf nm) a (d+up u)) (d+1+up u)
   rw [show d+1+up u = d+up u+1 by omega]
   exact r
 | .bi b x y,d,h0,h=>⟨wf_bound h0 h.1,wf_bound h0 h.2⟩
theorem wf_pt {nms:List Str} (hn:∀ t∈nms,nm t):∀ {A:F} {d:Int},WF nms A d→d+ht A < 1000→∀ t∈tms A,Pt t
 | .yes,_,_,_ | .no,_,_,_=>by intro t h;cases h
 | .word w ts,d,h,h1=>fun t ht=>by
   rcases h t ht with z | ⟨j,j0,j1,z⟩
   · exact .inl (isN_nm (hn t z))
   · exact .inr ⟨j,j0,by simp only [P1.ht] at h1;omega,z⟩
 | .un u a,d,h,h1=>wf_pt hn (A:=a) (d:=d+up u) h (by have:=up_01 u;simp only [P1.ht] at h1;omega)
 | .bi b x y,d,h,h1=>fun t ht=>by
   rcases List.mem_append.mp ht with z | z
   · exact wf_pt hn h.1 (by simp only [P1.ht] at h1;omega) t z
   · exact wf_pt hn h.2 (by simp only [P1.ht] at h1;omega) t z
theorem r_leaf (n:Nat) (c:Int) (ws nms:List Str) (hw:ws.length = 4) (hm:nms.length = 4):wRun Gs gls (n+1) 16 [.int c,.lst (ws.map .str),.lst (nms.map .str)] fun d=>∃ A:F,d = enc A∧sg A = 0∧okF A∧WF nms A 0∧inC ws A:=by
 refine wRun_def d__law_leaf rfl rfl rfl ?_;simp only [d__law_leaf,init,SI,Nat.reduceAdd,Nat.reduceSub]
 simp only [List.length_cons,List.length_nil,↓WS,↓WC,ite_true,ite_false,Bool.false_eq_true,decide_eq_true_eq,↓reduceIte]
 refine ⟨by decide,?_⟩
 split
 · refine ⟨by decide,by decide,by decide,by decide,by decide,?_⟩
   have a1:=Int.emod_nonneg (c / 7) (show (2:Int)≠0 by decide)
   have a2:=Int.emod_lt_of_pos (c / 7) (show (0:Int) < 2 by decide)
   rcases (show c / 7 % 2 = 0∨c / 7 % 2 = 1 by omega) with h | h
   · exact ⟨enc .yes,by rw [h];rfl,.yes,rfl,rfl,trivial,trivial,fun m h=>by cases h⟩
   · exact ⟨enc .no,by rw [h];rfl,.no,rfl,rfl,trivial,trivial,fun m h=>by cases h⟩
 · have a1:=Int.emod_nonneg (c / 7) (show (4:Int)≠0 by decide)
   have a2:=Int.emod_lt_of_pos (c / 7) (show (0:Int) < 4 by decide)
   obtain ⟨w,wm,e⟩:=at_strs (ts:=ws) (j:=c / 28 % 4) (Int.emod_nonneg _ (by decide)) (by rw [hw];exact Int.emod_lt_of_pos _ (by decide))
   refine ⟨by decide,by decide,by decide,by decide,_,e,by decide,⟨by omega,by omega⟩,?_⟩
   refine wFor_inv (fun xs δ=>∃ (c:Int) (ts:List Str) (m s:Sl),δ = [.val (.int c),.val (.lst (ws.map .str)),.val (.lst (nms.map .str)),m,.val (.str w),.own (ts.map .str),s]∧ts.length+xs.length≤3∧∀ t∈ts,t∈nms) ?_ ?_ _ _ ?_
   · rintro x xs δ ⟨c,ts,m,s,rfl,hl,hts⟩
     rw [List.length_cons] at hl
     simp only [↓WS,↓WC,ite_true,ite_false,Bool.false_eq_true,decide_eq_true_eq,↓reduceIte]
     obtain ⟨t,tm,e⟩:=at_strs (ts:=nms) (j:=c / 4 / 28 % 4) (Int.emod_nonneg _ (by decide)) (by rw [hm];exact Int.emod_lt_of_pos _ (by decide))
     refine ⟨by decide,by decide,by decide,_,e,?_,_,ts++[t],_,_,by rw [List.map_append];rfl,by simp;omega,fun x hx=>by
      rcases List.mem_append.mp hx with z | z
      · exact hts x z
      · rw [List.mem_singleton] at z;rw [z];exact tm⟩
     rw [List.length_map]
     exact Nat.lt_of_le_of_lt (show ts.length≤1000 by omega) (by decide)
   · rintro δ ⟨c,ts,m,s,rfl,hl,hts⟩
     simp only [List.length_cons,List.length_nil,↓WS,↓WC,ite_true,ite_false,Bool.false_eq_true,decide_eq_true_eq,↓reduceIte]
     have h4:ts.length≤3:=by simpa using hl
     exact ⟨by decide,.word w ts,rfl,rfl,(show ts.length≤1000 by omega),fun t ht=>.inl (hts t ht),fun m h=>by rw [List.mem_singleton.mp h];exact ⟨wm,h4⟩⟩
   · refine ⟨_,[],_,_,rfl,?_,by simp⟩
     rw [rng_len]
     simp
     omega
theorem ix_at {n:Nat} {i:Int} (h0:0≤i) (h1:i < n):ixN n i = some i.toNat:=by
 unfold ixN
 rw [if_pos h0,if_pos h1]
theorem set_upto {α:Type} (g:α→α) (ts:List α) (i:Nat) (h:i < ts.length):((ts.take i).map g++ts.drop i).set i (g ts[i]) = (ts.take (i+1)).map g++ts.drop (i+1):=by
 rw [List.set_append_right _ _ (by simp;omega)]
 simp only [List.length_map,List.length_take,Nat.min_eq_left (Nat.le_of_lt h),Nat.sub_self]
 rw [List.drop_eq_getElem_cons h,List.set_cons_zero,List.take_succ_eq_append_getElem h,List.map_append,List.append_assoc]
 rfl
theorem keep_upto {α:Type} (g:α→α) (ts:List α) (i:Nat) (h:i < ts.length) (e:g ts[i] = ts[i]):(ts.take i).map g++ts.drop i = (ts.take (i+1)).map g++ts.drop (i+1):=by
 rw [List.drop_eq_getElem_cons h,List.take_succ_eq_append_getElem h,List.map_append,List.append_assoc,List.map_cons,List.map_nil,e]
 rfl
theorem at_upto (g:Str→Str) (ts:List Str) (i:Nat) (h:i < ts.length):atI (((ts.take i).map g++ts.drop i).map D.str) (i:Int) = some (.str ts[i]):=by
 apply atI_nat
 rw [List.getElem?_map,List.getElem?_append_right (by simp;omega)]
 simp only [List.length_map,List.length_take,Nat.min_eq_left (Nat.le_of_lt h),Nat.sub_self,List.getElem?_drop]
 simp [h]
theorem rng_drop {N i:Nat} {x:D} {xs:List D} (h:(rngD 0 N).drop i = x::xs):i < N∧x = .int (i:Int)∧xs = (rngD 0 N).drop (i+1):=by
 have hi:i < (rngD 0 N).length:=by
  by_cases z:i < (rngD 0 N).length
  · exact z
  · rw [List.drop_eq_nil_of_le (by omega)] at h;cases h
 rw [List.drop_eq_getElem_cons hi] at h
 cases h
 rw [rng_len] at hi
 refine ⟨hi,?_,rfl⟩
 simp [rngD]
theorem len_upto {α:Type} (g:α→α) (ts:List α) (i:Nat) (h:i≤ts.length):((ts.take i).map g++ts.drop i).length = ts.length:=by
 simp;omega
theorem r_bound:∀ (A:F) (n:Nat) (nm:Str) (k:Int),ht A≤n→0≤k→k+ht A < 1000→okF A→PP.run Gs gls n 17 [enc A,.str nm,.int k] = some (enc (mapT (bf nm) A k))
 | .yes,n+1,nm,k,h,h0,h1,o=>by kernel_rfl
 | .no,n+1,nm,k,h,h0,h1,o=>by kernel_rfl
 | .word w ts,n+1,nm,k,h,h0,h1,o=>by
   have o':ts.length≤1000:=o
   apply wRun_out
   unfold enc
   refine wRun_def d__law_bound rfl rfl rfl ?_;simp only [d__law_bound,init,SI,Nat.reduceAdd,Nat.reduceSub]
   simp only [eq_ww,↓wSl_tl,↓WS,↓WC,ite_true,ite_false,Bool.false_eq_true,decide_eq_true_eq,↓reduceIte]
   rw [List.length_map]
   refine ⟨⟨by omega,by omega⟩,?_⟩
   refine wFor_inv (fun xs δ=>∃ (i:Nat) (s:Sl),i≤ts.length∧xs = (rngD 0 ts.length).drop i∧δ = [.val (.tup [.str "word",.str w,.tup (ts.map .str)]),.val (.str nm),.val (.int k),.own (((ts.take i).map (fun t=>bf nm t k)++ts.drop i).map .str),s,.no]) ?_ ?_ _ _ ⟨0,.no,by omega,by simp,by simp⟩
   · rintro x xs δ ⟨i,s,hi,hx,rfl⟩
     obtain ⟨hi,rfl,rfl⟩:=rng_drop hx.symm
     simp only [↓WS,↓WC,ite_true,ite_false,Bool.false_eq_true,decide_eq_true_eq,↓reduceIte]
     refine ⟨_,at_upto (fun t=>bf nm t k) ts i hi,?_⟩
     simp only [↓WS,↓WC,ite_true,ite_false,Bool.false_eq_true,decide_eq_true_eq,↓reduceIte]
     split
     · rename_i hc
       refine ⟨log_small h0 (by simp only [ht] at h1;omega),i,i,rfl,ix_at (by omega) (by rw [List.length_map,len_upto _ _ _ (by omega)];omega),i+1,.val (.int i),by omega,rfl,?_⟩
       have e:=set_upto (fun t=>bf nm t k) ts i hi
       rw [show bf nm ts[i] k = toString k by unfold bf;rw [if_pos hc]] at e
       rw [← e,List.map_set]
     · rename_i hc
       refine ⟨i+1,.val (.int i),by omega,rfl,?_⟩
       rw [keep_upto (fun t=>bf nm t k) ts i hi (by unfold bf;rw [if_neg hc])]
   · rintro δ ⟨i,s,hi,hx,rfl⟩
     have hl:=congrArg List.length hx
     rw [List.length_drop,rng_len] at hl
     have e:i = ts.length:=by simp at hl;omega
     subst e
     simp only [List.length_cons,List.length_nil,↓WS,↓WC,ite_true,ite_false,Bool.false_eq_true,decide_eq_true_eq,↓reduceIte]
     refine ⟨by decide,?_⟩
     simp only [List.take_length,List.drop_length,List.append_nil]
     rfl
 | .un u a,n+1,nm,k,h,h0,h1,o=>by
   have hu:0≤up u∧up u≤1:=by cases u<;>decide
   have ih:=r_bound a n nm (k+up u) (by simp only [ht] at h;omega) (by omega) (by simp only [ht] at h1;omega) o
   apply wRun_out
   rw [show enc (.un u a) = .tup [.str u.s,enc a] from rfl]
   refine wRun_def d__law_bound rfl rfl rfl ?_;simp only [d__law_bound,init,SI,Nat.reduceAdd,Nat.reduceSub]
   refine wSs_run 2 [.val (.tup [.str u.s,enc a]),.val (.str nm),.val (.int k),.no,.no,.val (.int (k+up u))] (by cases u<;>kernel_rfl) ?_
   simp only [dropS,↓wSl_tl,↓wComp_nil,↓wComp_cons,SI,List.take,Nat.reduceAdd,↓wRun_eq ih,↓WS,↓WC,ite_true,ite_false,Bool.false_eq_true,decide_eq_true_eq,↓reduceIte]
   exact ⟨by decide,by decide,⟨by simp,by decide⟩,rfl⟩
 | .bi b x y,n+1,nm,k,h,h0,h1,o=>by
   have ih1:=r_bound x n nm k (by simp only [ht] at h;omega) (by omega) (by simp only [ht] at h1;omega) o.1
   have ih2:=r_bound y n nm k (by simp only [ht] at h;omega) (by omega) (by simp only [ht] at h1;omega) o.2
   apply wRun_out
   rw [show enc (.bi b x y) = .tup [.str b.s,enc x,enc y] from rfl]
   refine wRun_def d__law_bound rfl rfl rfl ?_;simp only [d__law_bound,init,SI,Nat.reduceAdd,Nat.reduceSub]
   refine wSs_run 2 [.val (.tup [.str b.s,enc x,enc y]),.val (.str nm),.val (.int k),.no,.no,.val (.int (k+0))] (by cases b<;>kernel_rfl) ?_
   simp only [dropS,Int.add_zero,↓wSl_tl,↓wComp_nil,↓wComp_cons,SI,List.take,Nat.reduceAdd,↓wRun_eq ih1,↓wRun_eq ih2,↓WS,↓WC,ite_true,ite_false,Bool.false_eq_true,decide_eq_true_eq,↓reduceIte]
   exact ⟨by decide,by decide,⟨by simp,by decide⟩,rfl⟩
 | A,0,nm,k,h,h0,h1,o=>by cases A<;>simp only [ht] at h<;>omega
end P1
end
section
namespace P1
open PySem L2 PP
def se (p:Bool × F):D:=.tup [.str (sd p.1),enc p.2]
def sgl:Bool→F→List (Bool × F)
 | L,.un .neg a=>[(!L,a)]
 | L,.un .all a=>[(L,a)]
 | L,.un .ex a=>[(L,a)]
 | L,.bi .imp x y=>[(!L,x),(L,y)]
 | L,.bi .and x y=>[(L,x),(L,y)]
 | L,.bi .or x y=>[(L,x),(L,y)]
 | _,_=>[]
theorem r_signed (n:Nat) (L:Bool):∀ A:F,PP.run Gs gls (n+2) 5 [.str (sd L),enc A] = some (.lst ((sgl L A).map se))
 | .yes=>by cases L<;>kernel_rfl
 | .no=>by cases L<;>kernel_rfl
 | .word w ts=>by cases L<;>kernel_rfl
 | .un .neg a=>by cases L<;>kernel_rfl
 | .un .all a=>by cases L<;>kernel_rfl
 | .un .ex a=>by cases L<;>kernel_rfl
 | .bi .imp x y=>by cases L<;>kernel_rfl
 | .bi .and x y=>by cases L<;>kernel_rfl
 | .bi .or x y=>by cases L<;>kernel_rfl
def fmk (ps:List (Bool × F)):List M:=ps.flatMap fun p=>mks p.1 p.2
theorem r_mw1 (n:Nat) (L:Bool) (k:Str) (rs:List D) (hk:(k == "word") = false) (ps:List (Bool × F)) (hs:PP.run Gs gls n 5 [.str (sd L),.tup (.str k::rs)] = some (.lst (ps.map se))) (ih:∀ p∈ps,PP.run Gs gls n 7 [.str (sd p.1),enc p.2] = some (.lst ((mks p.1 p.2).map mkD))) (hl:(fmk ps).length≤1000) :
 PP.run Gs gls (n+1) 7 [.str (sd L),.tup (.str k::rs)] = some (.lst ((fmk ps).map mkD)):=by
 apply wRun_out
 refine wRun_def d_marks_within rfl rfl rfl ?_;simp only [d_marks_within,init,SI,Nat.reduceAdd,Nat.reduceSub]
 simp only [hk,↓wRun_eq hs,List.length_nil,↓WS,↓WC,ite_true,ite_false,Bool.false_eq_true,decide_eq_true_eq,↓reduceIte]
 refine ⟨by decide,?_⟩
 refine wFor_map se (fun qs δ=>∃ (ms:List M) (s3 s4:Sl),δ = [.val (.str (sd L)),.val (.tup (.str k::rs)),.own (ms.map mkD),s3,s4]∧ms++fmk qs = fmk ps∧∀ p∈qs,p∈ps) ?_ ?_ ps _ ⟨[],_,_,rfl,rfl,fun _ h=>h⟩
 · rintro p qs δ ⟨ms,s3,s4,rfl,e,hq⟩
   have hp:=ih p (hq p List.mem_cons_self)
   have el:=congrArg List.length e
   rw [show fmk (p::qs) = mks p.1 p.2++fmk qs from by simp [fmk]] at e el
   simp only [List.length_append] at el
   simp only [se,↓wTg_tp2,↓wRun_eq hp,↓WS,↓WC,ite_true,ite_false,Bool.false_eq_true,decide_eq_true_eq,↓reduceIte]
   refine ⟨by rw [List.length_map,List.length_map];exact small (by omega),ms++mks p.1 p.2,_,_,by rw [List.map_append],by rw [List.append_assoc];exact e,fun q hq'=>hq q (List.mem_cons_of_mem _ hq')⟩
 · rintro δ ⟨ms,s3,s4,rfl,e,_⟩
   simp only [↓WS,↓WC,ite_true,ite_false,Bool.false_eq_true,decide_eq_true_eq,↓reduceIte]
   rw [← e]
   simp [fmk]
theorem r_mw:∀ (A:F) (n:Nat) (L:Bool),ht A+3≤n→sg A≤900→PP.run Gs gls n 7 [.str (sd L),enc A] = some (.lst ((mks L A).map mkD))
 | .yes,n+3,L,_,_=>by cases L<;>kernel_rfl
 | .no,n+3,L,_,_=>by cases L<;>kernel_rfl
 | .word w ts,n+3,L,_,_=>by
   have e:PP.run Gs gls (n+3) 7 [.str (sd L),enc (.word w ts)] = some (.lst [.tup [.str w,.int ((ts.map D.str).length:Nat),.str (sd L)]]):=by kernel_rfl
   rw [e,List.length_map]
   rfl
 | .un u a,n+3,L,h,h2=>by
   have hh:ht a+3≤n+2:=by simp only [ht] at h;omega
   have h3:sg a≤900:=by simp only [sg] at h2;omega
   have l1:=mks_len a (!L)
   have l2:=mks_len a L
   have r:=r_mw1 (n+2) L u.s [enc a] (eq_uw u) (sgl L (.un u a)) (r_signed n L (.un u a)) (fun p hp=>by
    cases u<;>(rw [List.mem_singleton.mp hp];exact r_mw a (n+2) _ hh h3)) (by cases u<;>(simp only [fmk,sgl,List.flatMap_cons,List.flatMap_nil,List.append_nil];omega))
   rw [show enc (.un u a) = .tup [.str u.s,enc a] from rfl,r]
   cases u<;>simp only [fmk,sgl,List.flatMap_cons,List.flatMap_nil,List.append_nil,mks]
 | .bi b x y,n+3,L,h,h2=>by
   have hx:ht x+3≤n+2:=by simp only [ht] at h;omega
   have hy:ht y+3≤n+2:=by simp only [ht] at h;omega
   have h3:sg x≤900:=by simp only [sg] at h2;omega
   have h4:sg y≤900:=by simp only [sg] at h2;omega
   have l1:=mks_len x (!L)
   have l2:=mks_len x L
   have l3:=mks_len y L
   simp only [sg] at h2
   have r:=r_mw1 (n+2) L b.s [enc x,enc y] (eq_bw b) (sgl L (.bi b x y)) (r_signed n L (.bi b x y)) (fun p hp=>by
    cases b<;>(rcases List.mem_cons.mp hp with rfl | hp
               · exact r_mw x (n+2) _ hx h3
               · rw [List.mem_singleton.mp hp];exact r_mw y (n+2) _ hy h4)) (by cases b<;>(simp only [fmk,sgl,List.flatMap_cons,List.flatMap_nil,List.append_nil,List.length_append];omega))
   rw [show enc (.bi b x y) = .tup [.str b.s,enc x,enc y] from rfl,r]
   cases b<;>simp only [fmk,sgl,List.flatMap_cons,List.flatMap_nil,List.append_nil,mks]
 | A,0,L,h,_=>by omega
 | A,1,L,h,_=>by omega
 | A,2,L,h,_=>by omega
theorem mkD_hok (m:M):hok (mkD m) = true:=by kernel_rfl
theorem mkD_hb (m:M):hb (mkD m) = true:=by kernel_rfl
theorem mkD_lt (a b:M):(ltOk (mkD a) (mkD b)).isSome = true:=by
 rw [show ltOk (mkD a) (mkD b) = ltDs [.str a.2.1,.int a.2.2,.str (sd a.1)] [.str b.2.1,.int b.2.2,.str (sd b.1)] from by kernel_rfl]
 rw [ltDs]
 split
 · rw [ltDs]
   split
   · rw [ltDs]
     split
     · rfl
     · rw [ltD];rfl
   · rw [ltD];rfl
 · rw [ltD];rfl
def cat (ws:List Str):List M:=ws.flatMap fun w=>[(true,w,0),(true,w,1),(true,w,2),(true,w,3),(false,w,0),(false,w,1),(false,w,2),(false,w,3)]
theorem cat_len:∀ ws:List Str,(cat ws).length = 8 * ws.length
 | []=>rfl
 | w::ws=>by
   show ([_,_,_,_,_,_,_,_]++cat ws).length = _
   rw [List.length_append,cat_len ws]
   simp
   omega
theorem cat_mem {ws:List Str} {m:M} (h:m.2.1∈ws∧m.2.2≤3):m∈cat ws:=by
 obtain ⟨L,w,k⟩:=m
 refine List.mem_flatMap.mpr ⟨w,h.1,?_⟩
 have h2:k≤3:=h.2
 rcases (show k = 0∨k = 1∨k = 2∨k = 3 by omega) with rfl | rfl | rfl | rfl<;>cases L<;>simp
theorem mk_srt {ws:List Str} (hw:ws.length = 4) {ms:List M} (h:∀ m∈ms,m.2.1∈ws∧m.2.2≤3):sortable (dedD (ms.map mkD)) = true:=by
 refine dedD_sortable (n:=32) (by decide) (fun x hx=>?_) (fun l nd hl=>?_) (fun x hx=>?_) fun x hx y hy=>?_
 · obtain ⟨m,_,rfl⟩:=List.mem_map.mp hx
   exact mkD_hb m
 · have:=sub_lenG (ns:=(cat ws).map mkD) nd fun x hx=>by
    obtain ⟨m,hm,rfl⟩:=List.mem_map.mp (hl x hx)
    exact List.mem_map_of_mem (cat_mem (h m hm))
   rw [List.length_map,cat_len,hw] at this
   exact this
 · obtain ⟨m,_,rfl⟩:=List.mem_map.mp hx
   rfl
 · obtain ⟨m,_,rfl⟩:=List.mem_map.mp hx
   obtain ⟨m',_,rfl⟩:=List.mem_map.mp hy
   exact mkD_lt m m'
theorem r_marks (A:F) (n:Nat) (L:Bool) (h:ht A+3≤n) (h2:sg A≤900) {ws:List Str} (hw:ws.length = 4) (hc:inC ws A):PP.run Gs gls (n+1) 8 [.str (sd L),enc A] = some (.lst (srt ((mks L A).map mkD))):=by
 have hs:=mk_srt hw (inC_any hc L)
 apply wRun_out
 refine wRun_def d_marks rfl rfl rfl ?_;simp only [d_marks,init,SI,Nat.reduceAdd,Nat.reduceSub]
 simp only [↓wE_ssd,↓wRun_eq (r_mw A n L h h2),↓WS,↓WC,ite_true,ite_false,Bool.false_eq_true,decide_eq_true_eq,↓reduceIte]
 refine ⟨?_,hs,tot_of hs fun d hd=>?_,rfl⟩
 · rw [List.all_eq_true]
   intro x hx
   obtain ⟨m,_,rfl⟩:=List.mem_map.mp hx
   exact mkD_hok m
 · have:=(dedD_mem (fun x hx=>by obtain ⟨m,_,rfl⟩:=List.mem_map.mp hx;exact mkD_hb m)).mp hd
   obtain ⟨m,_,rfl⟩:=List.mem_map.mp this
   exact mkD_hb m
end P1
end
section
namespace P1
open PySem L2 PP
def si (A:F):D:=.tup [enc A,.lst ((mks true A).map mkD)]
theorem s_ll:(sd true == "left") = true:=by decide +kernel
theorem s_rl:(sd false == "left") = false:=by decide +kernel
theorem r_oth (n:Nat) (ms:List M) (hl:ms.length≤900):PP.run Gs gls (n+1) 18 [.lst (ms.map mkD)] = some (.lst ((ms.map flp).map mkD)):=by
 apply wRun_out
 refine wRun_def d__law_other rfl rfl rfl ?_;simp only [d__law_other,init,SI,Nat.reduceAdd,Nat.reduceSub]
 simp only [List.length_nil,↓WS,↓WC,ite_true,ite_false,Bool.false_eq_true,decide_eq_true_eq,↓reduceIte]
 refine ⟨by decide,?_⟩
 refine wFor_map mkD (fun qs δ=>∃ (ns:List M) (s:Sl),δ = [.val (.lst (ms.map mkD)),.own (ns.map mkD),s]∧ns++qs.map flp = ms.map flp) ?_ ?_ ms _ ⟨[],_,rfl,rfl⟩
 · rintro ⟨L,w,k⟩ qs δ ⟨ns,s,rfl,e⟩
   have el:=congrArg List.length e
   simp only [List.length_append,List.length_map,List.length_cons] at el
   have hs:ns.length < sizeLine:=Nat.lt_of_le_of_lt (show ns.length≤1000 by omega) (by decide)
   cases L
   · simp only [List.length_cons,List.length_nil,List.length_map,mkD,↓wIx_tup1,↓wIx_tup2,s_rl,↓WS,↓WC,ite_true,ite_false,Bool.false_eq_true,decide_eq_true_eq,↓reduceIte]
     exact ⟨by decide,_,rfl,by decide,hs,ns++[(true,w,k)],_,by rw [List.map_append];rfl,by rw [List.append_assoc];exact e⟩
   · simp only [List.length_cons,List.length_nil,List.length_map,mkD,↓wIx_tup1,↓wIx_tup2,s_ll,↓WS,↓WC,ite_true,ite_false,Bool.false_eq_true,decide_eq_true_eq,↓reduceIte]
     exact ⟨by decide,_,rfl,by decide,hs,ns++[(false,w,k)],_,by rw [List.map_append];rfl,by rw [List.append_assoc];exact e⟩
 · rintro δ ⟨ns,s,rfl,e⟩
   simp only [↓WS,↓WC,ite_true,ite_false,Bool.false_eq_true,decide_eq_true_eq,↓reduceIte]
   rw [← e]
   simp
theorem r_joined (n:Nat) (A B:F) (hA:sg A≤400) (hB:sg B≤400):PP.run Gs gls (n+2) 19 [si A,si B,.int 0] = some (si (.bi .and A B))∧PP.run Gs gls (n+2) 19 [si A,si B,.int 1] = some (si (.bi .or A B))∧PP.run Gs gls (n+2) 19 [si A,si B,.int 2] = some (si (.bi .imp A B)):=by
 have l1:=mks_len A true
 have l2:=mks_len B true
 have ls:((mks true A).map mkD).length+((mks true B).map mkD).length≤sizeLine:=by rw [List.length_map,List.length_map];exact small (by omega)
 have ls':(((mks true A).map flp).map mkD).length+((mks true B).map mkD).length≤sizeLine:=by rw [List.length_map,List.length_map,List.length_map];exact small (by omega)
 refine ⟨wRun_out ?_,wRun_out ?_,wRun_out ?_⟩
 · refine wRun_def d__law_joined rfl rfl rfl ?_;simp only [d__law_joined,init,SI,Nat.reduceAdd,Nat.reduceSub]
   simp only [si,List.length_cons,List.length_nil,↓wIx_tup1,↓WS,↓WC,ite_true,ite_false,Bool.false_eq_true,decide_eq_true_eq,↓reduceIte]
   refine iteI (fun h=>absurd h (by decide)) fun _=>⟨by decide,_,rfl,by decide,ls,by decide,?_⟩
   show _ = D.tup [_,.lst ((mks true A++mks true B).map mkD)]
   rw [List.map_append]
   rfl
 · refine wRun_def d__law_joined rfl rfl rfl ?_;simp only [d__law_joined,init,SI,Nat.reduceAdd,Nat.reduceSub]
   simp only [si,List.length_cons,List.length_nil,↓wIx_tup1,↓WS,↓WC,ite_true,ite_false,Bool.false_eq_true,decide_eq_true_eq,↓reduceIte]
   refine iteI (fun h=>absurd h (by decide)) fun _=>⟨by decide,_,rfl,by decide,ls,by decide,?_⟩
   show _ = D.tup [_,.lst ((mks true A++mks true B).map mkD)]
   rw [List.map_append]
   rfl
 · refine wRun_def d__law_joined rfl rfl rfl ?_;simp only [d__law_joined,init,SI,Nat.reduceAdd,Nat.reduceSub]
   simp only [si,List.length_cons,List.length_nil,↓wIx_tup1,↓wRun_eq (r_oth n (mks true A) (by omega)),↓WS,↓WC,ite_true,ite_false,Bool.false_eq_true,decide_eq_true_eq,↓reduceIte]
   refine ⟨by decide,ls',by decide,?_⟩
   show _ = D.tup [_,.lst ((mks false A++mks true B).map mkD)]
   rw [show mks false A = (mks true A).map flp from mks_flp A true,List.map_append]
   rfl
theorem r_marked (n:Nat):∀ A:F,sg A = 0→PP.run Gs gls (n+1) 20 [enc A] = some (si A)
 | .yes,_=>by kernel_rfl
 | .no,_=>by kernel_rfl
 | .word w ts,_=>by
   have e:PP.run Gs gls (n+1) 20 [enc (.word w ts)] = some (.tup [enc (.word w ts),.lst [.tup [.str w,.int ((ts.map D.str).length:Nat),.str (sd true)]]]):=by kernel_rfl
   rw [e,List.length_map]
   rfl
 | .un _ _,h=>by simp [sg] at h
 | .bi _ _ _,h=>by simp [sg] at h
end P1
end
section
namespace P1
open PySem L2 PP
def sgs:List F→Nat
 | []=>0
 | A::l=>sg A+sgs l
theorem sgs_app:∀ (l:List F) (A:F),sgs (l++[A]) = sgs l+sg A
 | [],A=>by simp [sgs]
 | B::l,A=>by simp [sgs,sgs_app l A];omega
def okW (ws nl:List Str) (A:F):Prop:=okF A∧WF nl A 0∧inC ws A
def inv (cs:D) (ws nms:List Str) (xs:List D) (δ:PP.Loc):Prop:=∃ (st:List F) (m a:Int) (s6 s7 s8 s9 s10 s11:Sl),δ = [.val cs,.val (.lst (ws.map .str)),.val (.lst (nms.map .str)),.own (st.map si),.val (.int m),.val (.int a),s6,s7,s8,s9,s10,s11] ∧
 sgs st+xs.length≤63∧st.length+xs.length≤63∧(∀ A∈st,okW ws nms A)∧(st≠[]∨(m = 0∧xs≠[]))∧∀ x∈xs,∃ c:Int,x = .int c
theorem okApp {ws nl:List Str} {l:List F} {C:F} (h:∀ B∈l,okW ws nl B) (hc:okW ws nl C):∀ B∈l++[C],okW ws nl B:=fun B hB=>by
 rcases List.mem_append.mp hB with q | q
 · exact h B q
 · rw [List.mem_singleton] at q;rw [q];exact hc
theorem inC_bi {ws:List Str} {A C:F} (b:B) (h:inC ws A) (h2:inC ws C):inC ws (.bi b A C):=fun m hm=>by
 cases b<;>rcases List.mem_append.mp hm with z | z
 all_goals first
  | exact h2 m z
  | exact inC_any h _ m z
theorem ok_bi {ws nl:List Str} {A C:F} (b:B) (h:okW ws nl A) (h2:okW ws nl C):okW ws nl (.bi b A C):=⟨⟨h.1,h2.1⟩,⟨h.2.1,h2.2.1⟩,inC_bi b h.2.2 h2.2.2⟩
theorem ok_neg {ws nl:List Str} {A:F} (h:okW ws nl A):okW ws nl (.un .neg A):=⟨h.1,by have:=h.2.1;simpa [WF,up] using this,inC_any h.2.2 false⟩
theorem ok_bd {ws nl:List Str} {u:U} {t:Str} {A:F} (hu:up u = 1) (h:okW ws nl A):okW ws nl (.un u (mapT (bf t) A 0)) :=
 ⟨mapT_ok _ A 0 h.1,by show WF nl (mapT (bf t) A 0) (0+up u);rw [hu];exact wf_bound (by decide) h.2.1,fun m hm=>by
   have:m∈mks true (mapT (bf t) A 0):=by cases u;(cases hu);exact hm;exact hm
   rw [mks_map] at this
   exact h.2.2 m this⟩
theorem last1 {st:List F} (h:st≠[]):∃ st' A,st = st'++[A]:=by
 rcases List.eq_nil_or_concat st with e | ⟨L,b,e⟩
 · exact absurd e h
 · exact ⟨L,b,by rw [e,List.concat_eq_append]⟩
theorem r_turn (n:Nat) (ws nms:List Str) (hw:ws.length = 4) (hm:nms.length = 4) (cs:D) (hn:100≤n) (x:D) (xs:List D) (δ:PP.Loc) (h:inv cs ws nms (x::xs) δ) (Q:Out→Prop) :
 wTg δ (.nm 6) x fun δ2=>wSs ⟨PP.run Gs gls n,gls,hfs Gs⟩ (.cons (.asg (.nm 7) (.bin .mod (.var 6) (.int 9)))
 (.cons (.asg (.nm 8) (.bin .add (.var 4) (.blt .len (.cons (.pk 3) .nil))))
 (.cons (.ifs (.and (.cmp .lt (.var 7) (.int 3)) (.cmp .gt (.blt .len (.cons (.pk 3) .nil)) (.int 1)))
 (.cons (.asg (.nm 9) (.pop 3))
 (.cons (.asg (.nm 10) (.pop 3))
 (.cons (.append 3 (.call 19 (.cons (.var 10) (.cons (.var 9) (.cons (.var 7) .nil)))))
 (.cons (.aug 4 .add (.int 1))
 .nil))))
 (.cons (.ifs (.and (.cmp .eq (.var 7) (.int 3)) (.and (.cmp .ne (.pk 3) (.lst .nil)) (.cmp .lt (.var 8) (.int 41))))
 (.cons (.asg (.nm 10) (.pop 3))
 (.cons (.append 3 (.tup (.cons (.tup (.cons (.str "not") (.cons (.ix (.var 10) (.int 0)) .nil))) (.cons (.call 18 (.cons (.ix (.var 10) (.int 1)) .nil)) .nil))))
 (.cons (.aug 4 .add (.int 1))
 .nil)))
 (.cons (.ifs (.and (.cmp .eq (.var 7) (.int 4)) (.and (.cmp .ne (.pk 3) (.lst .nil)) (.and (.cmp .lt (.var 8) (.int 41)) (.cmp .lt (.var 5) (.int 9)))))
 (.cons (.asg (.nm 10) (.pop 3))
 (.cons (.asg (.nm 11) (.call 17 (.cons (.ix (.var 10) (.int 0)) (.cons (.ix (.var 2) (.bin .mod (.bin .fdiv (.var 6) (.int 18)) (.int 4))) (.cons (.int 0) .nil)))))
 (.cons (.append 3 (.tup (.cons (.tup (.cons (.ix (.lst (.cons (.str "all") (.cons (.str "some") .nil))) (.bin .mod (.bin .fdiv (.var 6) (.int 9)) (.int 2))) (.cons (.var 11) .nil))) (.cons (.ix (.var 10) (.int 1)) .nil))))
 (.cons (.aug 4 .add (.int 1))
 (.cons (.aug 5 .add (.int 1))
 .nil)))))
 (.cons (.ifs (.cmp .lt (.var 8) (.int 40))
 (.cons (.append 3 (.call 20 (.cons (.call 16 (.cons (.bin .fdiv (.var 6) (.int 9)) (.cons (.var 1) (.cons (.var 2) .nil)))) .nil)))
 (.cons (.aug 4 .add (.int 1))
 .nil))
 .nil)
 .nil))
 .nil))
 .nil))
 .nil))) δ2 (loopS (inv cs ws nms xs) Q):=by
 obtain ⟨st,m,a,s6,s7,s8,s9,s10,s11,rfl,h1,h2,h3,h4,h5⟩:=h
 obtain ⟨c,rfl⟩:=h5 _ List.mem_cons_self
 rw [List.length_cons] at h1 h2
 have h5':∀ x∈xs,∃ c:Int,x = .int c:=fun x h=>h5 x (List.mem_cons_of_mem _ h)
 have mk:∀ (own:List D) (st':List F) (m' a':Int) (s6 s7 s8 s9 s10 s11:Sl),own = st'.map si→sgs st'≤sgs st+1→st'.length≤st.length+1→(∀ A∈st',okW ws nms A)→st'≠[]→inv cs ws nms xs [.val cs,.val (.lst (ws.map .str)),.val (.lst (nms.map .str)),.own own,.val (.int m'),.val (.int a'),s6,s7,s8,s9,s10,s11]:=by
  rintro _ st' m' a' s6 s7 s8 s9 s10 s11 rfl e2 e3 e4 e5
  exact ⟨st',m',a',s6,s7,s8,s9,s10,s11,rfl,by omega,by omega,e4,.inl e5,h5'⟩
 have szl:∀ l:List F,l.length≤st.length→(l.map si).length < sizeLine:=fun l hk=>by
  rw [List.length_map]
  exact Nat.lt_of_le_of_lt (show l.length≤1000 by omega) (by decide)
 have hlen:(st.map si).length = st.length:=List.length_map _
 refine wTg_nm.mpr ?_
 simp only [↓wSet_zip,↓wZip_succ,↓wZip_zero,↓wRev_cons,↓wRev_nil]
 refine wSs_cut (R:=fun δ=>δ = [.val cs,.val (.lst (ws.map .str)),.val (.lst (nms.map .str)),.own (st.map si),.val (.int m),.val (.int a),.val (.int c),.val (.int (c % 9)),.val (.int (m+st.length)),s9,s10,s11]) 2 _ _ ?_ ?_
 · simp only [takeS,↓nxS_nx,↓WS,↓WC,ite_true,ite_false,Bool.false_eq_true,decide_eq_true_eq,↓reduceIte]
   exact ⟨by decide,by rw [hlen]⟩
 rintro _ rfl
 simp only [dropS]
 have tl:∀ {e:E} {p:Bool},wT ⟨PP.run Gs gls n,gls,hfs Gs⟩ e [.val cs,.val (.lst (ws.map .str)),.val (.lst (nms.map .str)),.own (st.map si),.val (.int m),.val (.int a),.val (.int c),.val (.int (c % 9)),.val (.int (m+st.length)),s9,s10,s11] (fun k δ=>k = p∧δ = [.val cs,.val (.lst (ws.map .str)),.val (.lst (nms.map .str)),.own (st.map si),.val (.int m),.val (.int a),.val (.int c),.val (.int (c % 9)),.val (.int (m+st.length)),s9,s10,s11])→tells ⟨PP.run Gs gls n,gls,hfs Gs⟩ e [.val cs,.val (.lst (ws.map .str)),.val (.lst (nms.map .str)),.own (st.map si),.val (.int m),.val (.int a),.val (.int c),.val (.int (c % 9)),.val (.int (m+st.length)),s9,s10,s11] p:=fun ⟨k,δ,e,q1,q2⟩ R r=>⟨k,δ,e,by rw [q1,q2];exact r⟩
 have t3:tells ⟨PP.run Gs gls n,gls,hfs Gs⟩ (.cmp .ne (.pk 3) (.lst .nil)) [.val cs,.val (.lst (ws.map .str)),.val (.lst (nms.map .str)),.own (st.map si),.val (.int m),.val (.int a),.val (.int c),.val (.int (c % 9)),.val (.int (m+st.length)),s9,s10,s11] (!(st.map si).isEmpty):=tl (by simp only [List.length_nil,↓WS,↓WC,ite_true,ite_false,Bool.false_eq_true,decide_eq_true_eq,↓reduceIte];exact ⟨by decide,trivial,trivial⟩)
 have nonempty:(!(st.map si).isEmpty) = true→st≠[]:=fun h e=>by rw [e] at h;cases h
 refine wSs_cons.mpr (tells_if (tells_and (p:=decide (c % 9 < 3)) (q:=decide ((st.length:Int) > 1)) (tl (by simp only [↓WS,↓WC,ite_true,ite_false,Bool.false_eq_true,decide_eq_true_eq,↓reduceIte];exact ⟨trivial,trivial⟩)) fun _=>tl (by simp only [↓WS,↓WC,ite_true,ite_false,Bool.false_eq_true,decide_eq_true_eq,↓reduceIte];rw [hlen];exact ⟨rfl,trivial⟩)) (fun h=>?_) fun _=>wSs_cons.mpr (tells_if (tells_and (p:=decide (c % 9 = 3)) (tl (by simp only [↓wT_cmp,↓wE_var',↓wVar_succ,↓wVar_val,↓wE_int,↓wCmp_eqI];exact ⟨trivial,trivial⟩)) fun _=>tells_and t3 fun _=>tl (p:=decide (m+st.length < 41)) (by simp only [↓WS,↓WC,ite_true,ite_false,Bool.false_eq_true,decide_eq_true_eq,↓reduceIte];exact ⟨trivial,trivial⟩)) (fun h=>?_) fun _=>wSs_cons.mpr (tells_if (tells_and (p:=decide (c % 9 = 4)) (tl (by simp only [↓wT_cmp,↓wE_var',↓wVar_succ,↓wVar_val,↓wE_int,↓wCmp_eqI];exact ⟨trivial,trivial⟩)) fun _=>tells_and t3 fun _=>tells_and (tl (p:=decide (m+st.length < 41)) (by simp only [↓WS,↓WC,ite_true,ite_false,Bool.false_eq_true,decide_eq_true_eq,↓reduceIte];exact ⟨trivial,trivial⟩)) fun _=>tl (p:=decide (a < 9)) (by simp only [↓WS,↓WC,ite_true,ite_false,Bool.false_eq_true,decide_eq_true_eq,↓reduceIte];exact ⟨trivial,trivial⟩)) (fun h=>?_) fun _=>wSs_cons.mpr (tells_if (tl (p:=decide (m+st.length < 40)) (by simp only [↓WS,↓WC,ite_true,ite_false,Bool.false_eq_true,decide_eq_true_eq,↓reduceIte];exact ⟨trivial,trivial⟩)) (fun h=>?_) fun h=>?_))))
 · rw [Bool.and_eq_true,decide_eq_true_eq,decide_eq_true_eq] at h
   obtain ⟨L,A,e⟩:=last1 (st:=st) (by rintro rfl;simp at h)
   obtain ⟨L',A',e'⟩:=last1 (st:=L) (by rintro rfl;rw [e] at h;simp at h)
   have e1:sgs st = sgs L'+sg A'+sg A:=by rw [e,sgs_app,e',sgs_app]
   have e2:okW ws nms A:=h3 A (by rw [e];simp)
   have e2':okW ws nms A':=h3 A' (by rw [e,e'];simp)
   have e3:∀ B∈L',okW ws nms B:=fun B hB=>h3 B (by rw [e,e'];simp [hB])
   have e4:st.length = L'.length+2:=by rw [e,e'];simp
   have a1:=Int.emod_nonneg c (show (9:Int)≠0 by decide)
   obtain ⟨n,rfl⟩:∃ k,n = k+2:=⟨n - 2,by omega⟩
   have j:=r_joined n A' A (by omega) (by omega)
   have hj:∃ b:B,PP.run Gs gls (n+2) 19 [si A',si A,.int (c % 9)] = some (si (.bi b A' A)):=by
    rcases (show c % 9 = 0∨c % 9 = 1∨c % 9 = 2 by omega) with z | z | z<;>rw [z]
    · exact ⟨_,j.1⟩
    · exact ⟨_,j.2.1⟩
    · exact ⟨_,j.2.2⟩
   obtain ⟨b,hj⟩:=hj
   simp only [↓WS,↓WC,ite_true,ite_false,Bool.false_eq_true,decide_eq_true_eq,↓reduceIte]
   refine ⟨L.map si,si A,by rw [e];simp,L'.map si,si A',by rw [e'];simp,(wRun_eq hj).mpr ?_⟩
   exact ⟨szl L' (by omega),mk _ (L'++[.bi b A' A]) _ _ _ _ _ _ _ _ (by rw [List.map_append];rfl) (by rw [sgs_app];simp only [sg];omega) (by simp;omega) (okApp e3 (ok_bi b e2' e2)) (by simp)⟩
 · rw [Bool.and_eq_true,Bool.and_eq_true] at h
   obtain ⟨st',A,e⟩:=last1 (nonempty h.2.1)
   have e1:sgs st = sgs st'+sg A:=by rw [e,sgs_app]
   have e2:okW ws nms A:=h3 A (by rw [e];simp)
   have e3:∀ B∈st',okW ws nms B:=fun B hB=>h3 B (by rw [e];simp [hB])
   have e4:st.length = st'.length+1:=by rw [e];simp
   obtain ⟨n,rfl⟩:∃ k,n = k+1:=⟨n - 1,by omega⟩
   have l:=mks_len A true
   simp only [↓WS,↓WC,ite_true,ite_false,Bool.false_eq_true,decide_eq_true_eq,↓reduceIte]
   refine ⟨st'.map si,si A,by rw [e];simp,?_⟩
   simp only [si,List.length_cons,List.length_nil,↓wIx_tup1,↓wRun_eq (r_oth n (mks true A) (by omega)),↓WS,↓WC,ite_true,ite_false,Bool.false_eq_true,decide_eq_true_eq,↓reduceIte]
   refine ⟨by decide,by decide,szl st' (by omega),mk _ (st'++[.un .neg A]) _ _ _ _ _ _ _ _ ?_ (by rw [sgs_app];simp only [sg];omega) (by simp;omega) (okApp e3 (ok_neg e2)) (by simp)⟩
   rw [List.map_append,← show mks false A = (mks true A).map flp from mks_flp A true]
   rfl
 · rw [Bool.and_eq_true,Bool.and_eq_true] at h
   obtain ⟨st',A,e⟩:=last1 (nonempty h.2.1)
   have e1:sgs st = sgs st'+sg A:=by rw [e,sgs_app]
   have e2:okW ws nms A:=h3 A (by rw [e];simp)
   have e3:∀ B∈st',okW ws nms B:=fun B hB=>h3 B (by rw [e];simp [hB])
   have e4:st.length = st'.length+1:=by rw [e];simp
   have e5:=ht_sg A
   obtain ⟨t,_,et⟩:=at_strs (ts:=nms) (j:=c / 18 % 4) (Int.emod_nonneg _ (by decide)) (by rw [hm];exact Int.emod_lt_of_pos _ (by decide))
   have a1:=Int.emod_nonneg (c / 9) (show (2:Int)≠0 by decide)
   have a2:=Int.emod_lt_of_pos (c / 9) (show (0:Int) < 2 by decide)
   obtain ⟨u,u1,hu⟩:∃ u:U,up u = 1∧atI [D.str "all",D.str "some"] (c / 9 % 2) = some (.str u.s):=by
    rcases (show c / 9 % 2 = 0∨c / 9 % 2 = 1 by omega) with z | z
    · exact ⟨.all,rfl,by rw [z];rfl⟩
    · exact ⟨.ex,rfl,by rw [z];rfl⟩
   have hu':si (.un u (mapT (bf t) A 0)) = .tup [.tup [.str u.s,enc (mapT (bf t) A 0)],.lst ((mks true A).map mkD)]:=by
    cases u
    · cases u1
    · show D.tup [_,.lst ((mks true (mapT (bf t) A 0)).map mkD)] = _
      rw [mks_map];rfl
    · show D.tup [_,.lst ((mks true (mapT (bf t) A 0)).map mkD)] = _
      rw [mks_map];rfl
   simp only [↓WS,↓WC,ite_true,ite_false,Bool.false_eq_true,decide_eq_true_eq,↓reduceIte]
   refine ⟨st'.map si,si A,by rw [e];simp,?_⟩
   simp only [si,List.length_cons,List.length_nil,↓wIx_tup1,↓WS,↓WC,ite_true,ite_false,Bool.false_eq_true,decide_eq_true_eq,↓reduceIte]
   refine ⟨⟨by decide,by decide⟩,by decide,_,et,(wRun_eq (r_bound A n t 0 (by omega) (by decide) (by omega) e2.1)).mpr ?_⟩
   refine ⟨by decide,⟨by decide,by decide⟩,by decide,_,hu,by decide,by decide,szl st' (by omega),mk _ (st'++[.un u (mapT (bf t) A 0)]) _ _ _ _ _ _ _ _ ?_ (by rw [sgs_app];simp only [sg,mapT_sg];omega) (by simp;omega) (okApp e3 (ok_bd u1 e2)) (by simp)⟩
   rw [List.map_append,List.map_singleton,hu']
 · obtain ⟨n,rfl⟩:∃ k,n = k+1:=⟨n - 1,by omega⟩
   simp only [↓WS,↓WC,ite_true,ite_false,Bool.false_eq_true,decide_eq_true_eq,↓reduceIte]
   refine ⟨⟨by decide,by decide⟩,wRun_mono (r_leaf n _ ws nms hw hm) ?_⟩
   rintro _ ⟨A,rfl,e1,e2⟩
   simp only [↓wRun_eq (r_marked n A e1),↓WS,↓WC,ite_true,ite_false,Bool.false_eq_true,decide_eq_true_eq,↓reduceIte]
   exact ⟨szl st (by omega),mk _ (st++[A]) _ _ _ _ _ _ _ _ (by rw [List.map_append];rfl) (by rw [sgs_app,e1];omega) (by simp) (okApp h3 e2) (by simp)⟩
 · simp only [↓WS,↓WC,ite_true,ite_false,Bool.false_eq_true,decide_eq_true_eq,↓reduceIte]
   refine mk _ st _ _ _ _ _ _ _ _ rfl (by omega) (by omega) h3 ?_
   rintro rfl
   rcases h4 with q | ⟨rfl,_⟩
   · exact q rfl
   · simp at h
end P1
end
section
namespace P1
open PySem L2 PP
theorem r_join (ws nl:List Str) (n:Nat) (cs:D) (m a:Int) (s6 s7 s8 s11:Sl) (Q:Out→Prop):∀ (f:Nat) (st:List F) (s9 s10:Sl),st.length≤f→f≤1000→st≠[]→sgs st+st.length≤130→(∀ A∈st,okW ws nl A) →
 (∀ (A:F) (s9 s10:Sl),sg A≤130→okW ws nl A→Q (.nx [.val cs,.val (.lst (ws.map .str)),.val (.lst (nl.map .str)),.own [si A],.val (.int m),.val (.int a),s6,s7,s8,s9,s10,s11])) →
 wWhile ⟨PP.run Gs gls (n+2),gls,hfs Gs⟩ (.cmp .gt (.blt .len (.cons (.pk 3) .nil)) (.int 1))
 (.cons (.asg (.nm 9) (.pop 3))
 (.cons (.asg (.nm 10) (.pop 3))
 (.cons (.append 3 (.call 19 (.cons (.var 10) (.cons (.var 9) (.cons (.int 1) .nil)))))
 .nil))) f [.val cs,.val (.lst (ws.map .str)),.val (.lst (nl.map .str)),.own (st.map si),.val (.int m),.val (.int a),s6,s7,s8,s9,s10,s11] Q
 | 0,st,s9,s10,h,_,h0,_,ho,q=>absurd (List.length_eq_zero_iff.mp (by omega)) h0
 | f+1,st,s9,s10,h,hf,h0,hs,ho,q=>by
   rw [wWhile_succ]
   simp only [List.length_cons,List.length_nil,Nat.reduceAdd,↓WS,↓WC,ite_true,ite_false,Bool.false_eq_true,decide_eq_true_eq,↓reduceIte]
   have hlen:(st.map si).length = st.length:=List.length_map _
   rw [hlen]
   obtain ⟨L,A,e⟩:=last1 h0
   have e2:okW ws nl A:=ho A (by rw [e];simp)
   refine iteI (fun g=>?_) (fun g=>?_)
   · obtain ⟨L',A',e'⟩:=last1 (st:=L) (by rintro rfl;rw [e] at g;simp at g)
     have e1:sgs st = sgs L'+sg A'+sg A:=by rw [e,sgs_app,e',sgs_app]
     have e4:st.length = L'.length+2:=by rw [e,e'];simp
     have e2':okW ws nl A':=ho A' (by rw [e,e'];simp)
     have e3:∀ B∈L',okW ws nl B:=fun B hB=>ho B (by rw [e,e'];simp [hB])
     refine ⟨L.map si,si A,by rw [e];simp,L'.map si,si A',by rw [e'];simp,(wRun_eq (r_joined n A' A (by omega) (by omega)).2.1).mpr ⟨Nat.lt_of_le_of_lt (show (L'.map si).length≤1000 by rw [List.length_map];omega) (by decide),?_⟩⟩
     have r:=r_join ws nl n cs m a s6 s7 s8 s11 Q f (L'++[.bi .or A' A]) (.val (si A)) (.val (si A')) (by simp;omega) (by omega) (by simp) (by rw [sgs_app];simp only [sg,List.length_append,List.length_cons,List.length_nil];omega) (okApp e3 (ok_bi .or e2' e2)) q
     rw [List.map_append] at r
     exact r
   · have:L = []:=by
      cases L with
      | nil=>rfl
      | cons B L=>rw [e] at g;simp at g;omega
     subst this
     rw [List.nil_append] at e
     subst e
     exact q A s9 s10 (by simp [sgs] at hs;omega) e2
theorem r_built (n:Nat) (cs:List Int) (ws nms:List Str) (hw:ws.length = 4) (hm:nms.length = 4) (hc:12≤cs.length) (hc2:cs.length≤63) (hn:100≤n) :
 wRun Gs gls (n+3) 21 [.lst (cs.map .int),.lst (ws.map .str),.lst (nms.map .str)] fun d=>∃ A:F,d = si A∧sg A≤130∧okW ws nms A:=by
 refine wRun_def d__law_built rfl rfl rfl ?_;simp only [d__law_built,init,SI,Nat.reduceAdd,Nat.reduceSub]
 refine wSs_run 3 [.val (.lst (cs.map .int)),.val (.lst (ws.map .str)),.val (.lst (nms.map .str)),.own [],.val (.int 0),.val (.int 0),.no,.no,.no,.no,.no,.no] (by kernel_rfl) ?_
 simp only [dropS,↓WS,↓WC,ite_true,ite_false,Bool.false_eq_true,decide_eq_true_eq,↓reduceIte]
 refine wFor_inv (inv (.lst (cs.map .int)) ws nms) ?_ ?_ _ _ ?_
 · intro x xs δ h
   exact r_turn (n+2) ws nms hw hm _ (by omega) x xs δ h _
 · rintro δ ⟨st,m,a,s6,s7,s8,s9,s10,s11,rfl,h1,h2,h3,h4,h5⟩
   have h0:st≠[]:=by
    rcases h4 with q | ⟨_,q⟩
    · exact q
    · exact absurd rfl q
   simp only [List.length_nil] at h1 h2
   simp only [↓WS,↓WC,ite_true,ite_false,Bool.false_eq_true,decide_eq_true_eq,↓reduceIte]
   refine r_join ws nms n _ m a s6 s7 s8 s11 _ 1000 st s9 s10 (by omega) (by omega) h0 (by omega) h3 fun A t10 t11 hA oA=>?_
   simp only [↓wIx_lst0,↓WS,↓WC,ite_true,ite_false,Bool.false_eq_true,decide_eq_true_eq,↓reduceIte]
   exact ⟨si A,rfl,A,rfl,hA,oA⟩
 · refine ⟨[],0,0,_,_,_,_,_,_,rfl,?_,?_,by simp,.inr ⟨rfl,?_⟩,fun x hx=>?_⟩
   · rw [List.length_map];simp [sgs];omega
   · rw [List.length_map];simp;omega
   · intro z
     have:=congrArg List.length z
     rw [List.length_map] at this
     change cs.length = 0 at this
     omega
   · obtain ⟨c,_,rfl⟩:=List.mem_map.mp hx
     exact ⟨c,rfl⟩
end P1
end
section
namespace P1
open PySem L2 PP
theorem dep_mkD (m:M):dep (mkD m)≤150:=by
 have:dep (mkD m) = 1:=by kernel_rfl
 omega
theorem notin_D {m:M} {ds:List D} (h:mkD m∈ds) {Q:Bool→Prop} (q:Q false):wCmp .notin (mkD m) (.lst ds) Q:=by
 have e:(ds.any fun y=>eqD y (mkD m)) = true:=List.any_eq_true.mpr ⟨_,h,(eqD_iff _ _ (mkD_hb m) (mkD_hb m)).mpr rfl⟩
 exact ⟨false,by simp only [cmpD,inD,if_pos (dep_mkD m),e];rfl,q⟩
theorem lt_D {a b:D} (h:ltOk a b = some true) {Q:Bool→Prop} (q:Q true):wCmp .lt a b Q:=⟨true,h,q⟩
theorem r_told (n:Nat) (fs ms:List D) (h1:∀ x∈fs,x∈ms) (h2:∀ x∈ms,x∈fs) (hm:∀ x∈fs,∃ m:M,x = mkD m) (hu:fs.Pairwise fun a b=>ltOk a b = some true) (hl:fs.length≤1000):PP.run Gs gls (n+1) 22 [.lst fs,.lst ms] = some (.bl true):=by
 apply wRun_out
 refine wRun_def d__law_told rfl rfl rfl ?_;simp only [d__law_told,init,SI,Nat.reduceAdd,Nat.reduceSub]
 refine wSs_run 1 [.val (.lst fs),.val (.lst ms),.no,.no] (by kernel_rfl) ?_
 simp only [dropS,↓WS,↓WC,ite_true,ite_false,Bool.false_eq_true,decide_eq_true_eq,↓reduceIte]
 refine ⟨⟨by omega,by omega⟩,?_⟩
 refine wFor_inv (fun xs δ=>∃ (i:Nat) (s:Sl),i≤fs.length∧xs = (rngD 0 fs.length).drop i∧δ = [.val (.lst fs),.val (.lst ms),s,.no]) ?_ ?_ _ _ ⟨0,.no,by omega,by simp,rfl⟩
 · rintro x xs δ ⟨i,s,hi,hx,rfl⟩
   obtain ⟨hi,rfl,rfl⟩:=rng_drop hx.symm
   obtain ⟨m,em⟩:=hm fs[i] (List.getElem_mem hi)
   have ei:atI fs (i:Int) = some (mkD m):=by rw [← em];exact atI_nat (List.getElem?_eq_getElem hi)
   refine wTg_nm.mpr ?_
   simp only [↓wSet_zip,↓wZip_succ,↓wZip_zero,↓wRev_cons,↓wRev_nil]
   refine wSs_cons.mpr (tells_if (p:=false || (decide ((i:Int) > 0) && !true)) (tells_or ?_ fun _=>tells_and ?_ fun hp=>tells_not ?_) (fun h=>?_) fun _=>wSs_nil.mpr (wSs_cons.mpr ?_))
   · intro R r
     simp only [↓WS,↓WC,ite_true,ite_false,Bool.false_eq_true,decide_eq_true_eq,↓reduceIte]
     exact ⟨_,ei,notin_D (h1 _ (by rw [← em];exact List.getElem_mem hi)) r⟩
   · intro R r
     simp only [↓WS,↓WC,ite_true,ite_false,Bool.false_eq_true,decide_eq_true_eq,↓reduceIte]
     exact r
   · intro R r
     have hp':0 < i:=by have:=of_decide_eq_true hp;omega
     have ej:atI fs ((i:Int) - 1) = some fs[i - 1]:=by
      have:=atI_nat (xs:=fs) (List.getElem?_eq_getElem (show i - 1 < fs.length by omega))
      rwa [show ((i - 1:Nat):Int) = (i:Int) - 1 by omega] at this
     simp only [↓WS,↓WC,ite_true,ite_false,Bool.false_eq_true,decide_eq_true_eq,↓reduceIte]
     refine ⟨_,ej,_,ei,lt_D ?_ r⟩
     rw [← em]
     exact List.pairwise_iff_getElem.mp hu (i - 1) i (by omega) hi (by omega)
   · exfalso
     simp at h
   · simp only [↓WS,↓WC,ite_true,ite_false,Bool.false_eq_true,decide_eq_true_eq,↓reduceIte]
     refine ⟨_,ei,?_⟩
     simp only [mkD,↓wIx_tup1,↓WS,↓WC,ite_true,ite_false,Bool.false_eq_true,decide_eq_true_eq,↓reduceIte]
     refine ⟨_,ei,?_⟩
     simp only [mkD,↓wIx_tup1,↓WS,↓WC,ite_true,ite_false,Bool.false_eq_true,decide_eq_true_eq,↓reduceIte]
     exact ⟨i+1,_,by omega,rfl,rfl⟩
 · rintro δ ⟨i,s,hi,hx,rfl⟩
   simp only [↓WS,↓WC,ite_true,ite_false,Bool.false_eq_true,decide_eq_true_eq,↓reduceIte]
   refine wFor_inv (fun xs δ=>∃ s3:Sl,(∀ x∈xs,x∈ms)∧δ = [.val (.lst fs),.val (.lst ms),s,s3]) ?_ ?_ _ _ ⟨_,fun _ h=>h,rfl⟩
   · rintro x xs δ ⟨s3,hx,rfl⟩
     have hf:=h2 x (hx x List.mem_cons_self)
     obtain ⟨m,rfl⟩:=hm x hf
     simp only [↓WS,↓WC,ite_true,ite_false,Bool.false_eq_true,decide_eq_true_eq,↓reduceIte]
     refine notin_D hf ?_
     simp only [↓WS,↓WC,ite_true,ite_false,Bool.false_eq_true,decide_eq_true_eq,↓reduceIte]
     exact ⟨_,fun y h=>hx y (List.mem_cons_of_mem _ h),rfl⟩
   · rintro δ ⟨s3,_,rfl⟩
     simp only [↓WS,↓WC,ite_true,ite_false,Bool.false_eq_true,decide_eq_true_eq,↓reduceIte]
theorem srt_len {xs:List D} (h:∀ x∈xs,hb x = true):(srt xs).length≤xs.length:=by
 unfold srt
 rw [(letI:Tbs:=⟨[],[]⟩;sortL_len (dedD xs))]
 exact sub_lenG (dedD_nodup h) fun x hx=>(dedD_mem h).mp hx
theorem hbs {ms:List M}:∀ x∈ms.map mkD,hb x = true:=fun x hx=>by
 obtain ⟨m,_,rfl⟩:=List.mem_map.mp hx
 exact mkD_hb m
theorem told_of {ws:List Str} (hw:ws.length = 4) (n:Nat) {A:F} {L:Bool} (hA:sg A≤900) (hc:inC ws A) (ds:List D) (hd:∀ x,x∈ds↔x∈(mks L A).map mkD):PP.run Gs gls (n+1) 22 [.lst (srt ((mks L A).map mkD)),.lst ds] = some (.bl true):=by
 have hs:=mk_srt hw (inC_any hc L)
 refine r_told n _ ds (fun x hx=>(hd x).mpr ((srt_mem hbs hs).mp hx)) (fun x hx=>(srt_mem hbs hs).mpr ((hd x).mp hx)) (fun x hx=>?_) (srt_up hbs hs) ?_
 · obtain ⟨m,_,rfl⟩:=List.mem_map.mp ((srt_mem hbs hs).mp hx)
   exact ⟨m,rfl⟩
 · have:=srt_len (xs:=(mks L A).map mkD) hbs
   rw [List.length_map] at this
   have:=mks_len A L
   omega
def brs:Bool→Str→F→List (List (Bool × F))
 | L,_,.un .neg a=>[[(!L,a)]]
 | L,nm,.un .all a=>[[(L,mapT (pf nm) a 0)]]
 | L,nm,.un .ex a=>[[(L,mapT (pf nm) a 0)]]
 | true,_,.bi .and x y=>[[(true,x),(true,y)]]
 | false,_,.bi .and x y=>[[(false,x)],[(false,y)]]
 | true,_,.bi .or x y=>[[(true,x)],[(true,y)]]
 | false,_,.bi .or x y=>[[(false,x),(false,y)]]
 | true,_,.bi .imp x y=>[[(false,x)],[(true,y)]]
 | false,_,.bi .imp x y=>[[(true,x),(false,y)]]
 | _,_,_=>[]
def bD (b:List (Bool × F)):D:=.lst (b.map se)
theorem bd_all:(bds.any fun y=>eqD y (.str U.all.s)) = true:=by decide +kernel
theorem bd_ex:(bds.any fun y=>eqD y (.str U.ex.s)) = true:=by decide +kernel
theorem r_parts (L:Bool) (nms:List Str) (hn:∀ t∈nms,nm t) (nm:Str) (n:Nat) (hn9:150≤n):∀ A:F,okF A→WF nms A 0→sg A≤130→PP.run Gs gls (n+1) 6 [.str (sd L),enc A,.str nm] = some (.lst ((brs L nm A).map bD))
 | .yes,_,_,_=>by cases L<;>kernel_rfl
 | .no,_,_,_=>by cases L<;>kernel_rfl
 | .word w ts,_,_,_=>by cases L<;>kernel_rfl
 | .un .neg a,_,_,_=>by
   obtain ⟨n,rfl⟩:∃ m,n = m+3:=⟨n - 3,by omega⟩
   cases L<;>kernel_rfl
 | .un .all a,o,w,h=>by
   obtain ⟨n,rfl⟩:∃ m,n = m+1:=⟨n - 1,by omega⟩
   have hh:=ht_sg a
   simp only [sg] at h
   have w1:WF nms a 1:=w
   have s:=r_put_in a nm n (by omega) (by omega) o (wf_pt hn w1 (by omega))
   apply wRun_out
   rw [show enc (.un .all a) = .tup [.str U.all.s,enc a] from rfl]
   refine wRun_def d_parts rfl rfl rfl ?_;simp only [d_parts,init,SI,Nat.reduceAdd,Nat.reduceSub]
   simp only [↓wE_g0,↓wE_g1,lv_u,bd_all,dep_str,↓wRun_eq s,List.length_cons,List.length_nil,↓WS,↓WC,ite_true,ite_false,Bool.false_eq_true,decide_eq_true_eq,↓reduceIte]
   exact ⟨by decide,by decide,by decide,by decide,by decide,rfl⟩
 | .un .ex a,o,w,h=>by
   obtain ⟨n,rfl⟩:∃ m,n = m+1:=⟨n - 1,by omega⟩
   have hh:=ht_sg a
   simp only [sg] at h
   have w1:WF nms a 1:=w
   have s:=r_put_in a nm n (by omega) (by omega) o (wf_pt hn w1 (by omega))
   apply wRun_out
   rw [show enc (.un .ex a) = .tup [.str U.ex.s,enc a] from rfl]
   refine wRun_def d_parts rfl rfl rfl ?_;simp only [d_parts,init,SI,Nat.reduceAdd,Nat.reduceSub]
   simp only [↓wE_g0,↓wE_g1,lv_u,bd_ex,dep_str,↓wRun_eq s,List.length_cons,List.length_nil,↓WS,↓WC,ite_true,ite_false,Bool.false_eq_true,decide_eq_true_eq,↓reduceIte]
   exact ⟨by decide,by decide,by decide,by decide,by decide,rfl⟩
 | .bi b x y,_,_,_=>by
   obtain ⟨n,rfl⟩:∃ m,n = m+3:=⟨n - 3,by omega⟩
   cases b<;>cases L<;>kernel_rfl
theorem inC_of {ws:List Str} {A:F} (L:Bool) (h:∀ m∈mks L A,m.2.1∈ws∧m.2.2≤3):inC ws A:=fun m hm=>by
 cases L with
 | true=>exact h m hm
 | false =>
   rw [show mks true A = (mks false A).map flp from mks_flp A false] at hm
   obtain ⟨m',h',rfl⟩:=List.mem_map.mp hm
   exact h m' h'
def fmB (bs:List (List (Bool × F))):List M:=bs.flatMap fmk
theorem fm1 (p:Bool × F):fmB [[p]] = mks p.1 p.2:=by simp [fmB,fmk]
theorem fm2 (p q:Bool × F):fmB [[p],[q]] = mks p.1 p.2++mks q.1 q.2:=by simp [fmB,fmk]
theorem fm3 (p q:Bool × F):fmB [[p,q]] = mks p.1 p.2++mks q.1 q.2:=by simp [fmB,fmk]
theorem brs_mks (L:Bool) (nm:Str):∀ A:F,brs L nm A≠[]→fmB (brs L nm A) = mks L A
 | .yes,h | .no,h | .word _ _,h=>by cases L<;>exact absurd rfl h
 | .un .neg a,_=>by cases L<;>exact fm1 _
 | .un .all a,_=>by cases L<;>exact (fm1 _).trans (mks_map _ _ _ _)
 | .un .ex a,_=>by cases L<;>exact (fm1 _).trans (mks_map _ _ _ _)
 | .bi b x y,_=>by cases b<;>cases L<;>first | exact fm2 _ _ | exact fm3 _ _
theorem brs_sg (L:Bool) (nm:Str):∀ A:F,∀ b∈brs L nm A,∀ p∈b,sg p.2≤sg A:=fun A b hb p hp=>by
 cases A with
 | yes=>cases L<;>cases hb
 | no=>cases L<;>cases hb
 | word w ts=>cases L<;>cases hb
 | un u a =>
   have e:b = [p]∧sg p.2 = sg a:=by
    cases u<;>cases L<;>(have e:=List.mem_singleton.mp hb;subst e;have e:=List.mem_singleton.mp hp;subst e;simp [mapT_sg])
   simp only [sg]
   omega
 | bi c x y =>
   have e:p.2 = x∨p.2 = y:=by
    cases c<;>cases L<;>first | (have hb:=List.mem_singleton.mp hb;subst hb;rcases List.mem_cons.mp hp with hp | hp;(subst hp;exact .inl rfl);(have hp:=List.mem_singleton.mp hp;subst hp;exact .inr rfl)) | (rcases List.mem_cons.mp hb with hb | hb;(subst hb;have hp:=List.mem_singleton.mp hp;subst hp;exact .inl rfl);(have hb:=List.mem_singleton.mp hb;subst hb;have hp:=List.mem_singleton.mp hp;subst hp;exact .inr rfl))
   rcases e with e | e<;>rw [e]<;>simp only [sg]<;>omega
end P1
end
section
namespace P1
open PySem L2 PP
def smk (p:Bool × F):List D:=srt ((mks p.1 p.2).map mkD)
theorem r_side (n:Nat) (hn:160≤n) (s0:Sl) (ws nms:List Str) (hw:ws.length = 4) (A:F) (hA:sg A≤130) (oA:okW ws nms A) (met:D) (hnm:∀ t∈nms,nm t) (nm:Str) (L:Bool) (s6 s7 s8 s9:Sl) (Q:Out→Prop)
 (q:∀ s6 s7 s8,Q (.nx [s0,.val (.lst (nms.map .str)),.val (enc A),.val met,.val (.str (sd L)),.val (.lst ((brs L nm A).map bD)),s6,s7,s8,s9])) :
 wSs ⟨PP.run Gs gls (n+1),gls,hfs Gs⟩ (.cons (.asg (.nm 6) (.lst .nil))
 (.cons (.for_ (.nm 7) (.sq (.var 5))
 (.cons (.for_ (.nm 8) (.sq (.var 7))
 (.cons (.asg (.nm 6) (.bin .add (.var 6) (.call 8 (.cons (.ix (.var 8) (.int 0)) (.cons (.ix (.var 8) (.int 1)) .nil)))))
 .nil))
 .nil))
 (.cons (.ifs (.and (.cmp .ne (.var 5) (.lst .nil)) (.not (.call 22 (.cons (.call 8 (.cons (.var 4) (.cons (.var 2) .nil))) (.cons (.var 6) .nil)))))
 (.cons (.ret (.bl false))
 .nil)
 .nil)
 .nil))) [s0,.val (.lst (nms.map .str)),.val (enc A),.val met,.val (.str (sd L)),.val (.lst ((brs L nm A).map bD)),s6,s7,s8,s9] Q:=by
 by_cases h0:brs L nm A = []
 · rw [h0] at q ⊢
   simp only [List.map_nil,List.length_nil,↓wFor_nil,↓WS,↓WC,ite_true,ite_false,Bool.false_eq_true,decide_eq_true_eq,↓reduceIte]
   exact ⟨by decide,by decide,q _ _ _⟩
 have e0:=brs_mks L nm A h0
 have hA2:=ht_sg A
 have ml:=mks_len A L
 have hin:∀ b∈brs L nm A,∀ p∈b,inC ws p.2∧sg p.2≤130:=fun b hb p hp=>⟨inC_of p.1 fun m hm=>inC_any oA.2.2 L m (by rw [← e0];exact List.mem_flatMap.mpr ⟨b,hb,List.mem_flatMap.mpr ⟨p,hp,hm⟩⟩),Nat.le_trans (brs_sg L nm A b hb p hp) hA⟩
 have hr:∀ b∈brs L nm A,∀ p∈b,PP.run Gs gls (n+1) 8 [.str (sd p.1),enc p.2] = some (.lst (smk p)):=fun b hb p hp=>by
  have:=hin b hb p hp
  have h2:=ht_sg p.2
  exact r_marks p.2 n p.1 (by omega) (by omega) hw this.1
 refine wSs_cut (R:=fun δ=>∃ s7 s8,δ = [s0,.val (.lst (nms.map .str)),.val (enc A),.val met,.val (.str (sd L)),.val (.lst ((brs L nm A).map bD)),.val (.lst ((brs L nm A).flatMap fun b=>b.flatMap smk)),s7,s8,s9]) 2 _ _ ?_ ?_
 · simp only [takeS,List.length_nil,↓WS,↓WC,ite_true,ite_false,Bool.false_eq_true,decide_eq_true_eq,↓reduceIte]
   refine ⟨by decide,?_⟩
   refine wFor_map bD (fun bs δ=>∃ (ms:List D) (s7 s8:Sl),δ = [s0,.val (.lst (nms.map .str)),.val (enc A),.val met,.val (.str (sd L)),.val (.lst ((brs L nm A).map bD)),.val (.lst ms),s7,s8,s9]∧ms++(bs.flatMap fun b=>b.flatMap smk) = ((brs L nm A).flatMap fun b=>b.flatMap smk)∧ms.length+(fmB bs).length≤(fmB (brs L nm A)).length∧∀ b∈bs,b∈brs L nm A) ?_ ?_ _ _ ⟨[],_,_,rfl,rfl,by simp,fun _ h=>h⟩
   · rintro b bs δ ⟨ms,s7,s8,rfl,e,hl,hb⟩
     have hb1:=hb b List.mem_cons_self
     simp only [bD,↓WS,↓WC,ite_true,ite_false,Bool.false_eq_true,decide_eq_true_eq,↓reduceIte]
     refine wFor_map se (fun ps δ=>∃ (ms:List D) (s8:Sl),δ = [s0,.val (.lst (nms.map .str)),.val (enc A),.val met,.val (.str (sd L)),.val (.lst ((brs L nm A).map bD)),.val (.lst ms),.val (bD b),s8,s9]∧ms++(ps.flatMap smk++bs.flatMap fun b=>b.flatMap smk) = ((brs L nm A).flatMap fun b=>b.flatMap smk)∧ms.length+(fmk ps).length+(fmB bs).length≤(fmB (brs L nm A)).length∧∀ p∈ps,p∈b) ?_ ?_ _ _ ⟨ms,_,rfl,?_,?_,fun _ h=>h⟩
     · rintro p ps δ ⟨ms,s8,rfl,e,hl,hp⟩
       have w:=hr b hb1 p (hp p List.mem_cons_self)
       have hl2:=srt_len (xs:=(mks p.1 p.2).map mkD) hbs
       rw [List.length_map] at hl2
       have e3:(fmk (p::ps)).length = (mks p.1 p.2).length+(fmk ps).length:=by simp [fmk]
       rw [e0,e3] at hl
       have hs:(smk p).length≤(mks p.1 p.2).length:=hl2
       simp only [se,↓wIx_tup1,↓wRun_eq w,↓WS,↓WC,ite_true,ite_false,Bool.false_eq_true,decide_eq_true_eq,↓reduceIte]
       exact ⟨small (by omega),ms++smk p,_,rfl,by rw [List.append_assoc];simpa using e,by rw [e0,List.length_append];omega,fun p' h=>hp p' (List.mem_cons_of_mem _ h)⟩
     · rintro δ ⟨ms,s8,rfl,e,hl,_⟩
       simp only [↓WS,↓WC,ite_true,ite_false,Bool.false_eq_true,decide_eq_true_eq,↓reduceIte]
       exact ⟨ms,_,_,rfl,by simpa using e,by simpa [fmk] using hl,fun b h=>hb b (List.mem_cons_of_mem _ h)⟩
     · simpa using e
     · have e3:(fmB (b::bs)).length = (fmk b).length+(fmB bs).length:=by simp [fmB]
       omega
   · rintro δ ⟨ms,s7,s8,rfl,e,_,_⟩
     simp only [↓nxS_nx,↓WS,↓WC,ite_true,ite_false,Bool.false_eq_true,decide_eq_true_eq,↓reduceIte]
     rw [← e]
     exact ⟨s7,s8,by simp⟩
 · rintro _ ⟨s7,s8,rfl⟩
   have w1:=r_marks A n L (by omega) (by omega) hw oA.2.2
   have w2:=told_of hw n (L:=L) (by omega) oA.2.2 ((brs L nm A).flatMap fun b=>b.flatMap smk) fun x=>by
    rw [← e0]
    constructor
    · intro h
      obtain ⟨b,hb,h⟩:=List.mem_flatMap.mp h
      obtain ⟨p,hp,h⟩:=List.mem_flatMap.mp h
      have h':=(srt_mem hbs (mk_srt hw (inC_any (hin b hb p hp).1 p.1))).mp h
      obtain ⟨m,hm,rfl⟩:=List.mem_map.mp h'
      exact List.mem_map_of_mem (List.mem_flatMap.mpr ⟨b,hb,List.mem_flatMap.mpr ⟨p,hp,hm⟩⟩)
    · intro h
      obtain ⟨m,hm,rfl⟩:=List.mem_map.mp h
      obtain ⟨b,hb,h⟩:=List.mem_flatMap.mp hm
      obtain ⟨p,hp,h⟩:=List.mem_flatMap.mp h
      exact List.mem_flatMap.mpr ⟨b,hb,List.mem_flatMap.mpr ⟨p,hp,(srt_mem hbs (mk_srt hw (inC_any (hin b hb p hp).1 p.1))).mpr (List.mem_map_of_mem h)⟩⟩
   simp only [dropS]
   refine wSs_cons.mpr (tells_if (p:=(!((brs L nm A).map bD).isEmpty) && !true) (tells_and (fun {R} r=>?_) fun _=>tells_not (fun {R} r=>?_)) (fun h=>?_) fun _=>?_)
   · simp only [List.length_nil,↓WS,↓WC,ite_true,ite_false,Bool.false_eq_true,decide_eq_true_eq,↓reduceIte]
     exact ⟨by decide,r⟩
   · simp only [↓wRun_eq w1,↓wRun_eq w2,↓WS,↓WC,ite_true,ite_false,Bool.false_eq_true,decide_eq_true_eq,↓reduceIte]
     exact r
   · simp at h
   · simp only [↓WS,↓WC,ite_true,ite_false,Bool.false_eq_true,decide_eq_true_eq,↓reduceIte]
     exact q _ _ _
theorem main (ns:List Int) (hns:ns.length≤63):PP.run Gs gls 200 23 [.lst (ns.map .int)] = some (.bl true):=by
 apply wRun_out
 refine wRun_def d_law rfl rfl rfl ?_;simp only [d_law,init,SI,Nat.reduceAdd,Nat.reduceSub]
 simp only [↓WS,↓WC,ite_true,ite_false,Bool.false_eq_true,decide_eq_true_eq,↓reduceIte]
 refine wRun_mono (r_names 196 ns) ?_
 rintro _ ⟨nms,rfl,hm,hb⟩
 refine wRun_mono (r_cells 197 ns hns) ?_
 rintro _ ⟨cs,rfl,c1,c2,_⟩
 refine wRun_mono (r_words 196 ns) ?_
 rintro _ ⟨ws,rfl,hw⟩
 refine wRun_mono (r_built 196 cs ws nms hw hm c1 c2 (by decide)) ?_
 rintro _ ⟨A,rfl,hA,oA⟩
 have hA2:=ht_sg A
 have hnm:∀ t∈nms,nm t:=fun t h=>(hb t h).2
 have w1:PP.run Gs gls 199 8 [.str "left",enc A] = some (.lst (srt ((mks true A).map mkD))):=r_marks A 198 true (by omega) (by omega) hw oA.2.2
 have w2:PP.run Gs gls 199 8 [.str "right",enc A] = some (.lst (srt ((mks false A).map mkD))):=r_marks A 198 false (by omega) (by omega) hw oA.2.2
 have w3:=told_of hw 198 (L:=true) (by omega) oA.2.2 _ fun x=>Iff.rfl
 have w4:=told_of hw 198 (L:=false) (by omega) oA.2.2 _ fun x=>Iff.rfl
 rw [show mks false A = (mks true A).map flp from mks_flp A true] at w2 w4
 have w5:=r_oth 198 (mks true A) (by have:=mks_len A true;omega)
 simp only [si,↓wTg_tp2,↓wRun_eq w1,↓wRun_eq w2,↓wRun_eq w3,↓wRun_eq w4,↓wRun_eq w5,List.length_cons,List.length_nil,↓WS,↓WC,ite_true,ite_false,Bool.false_eq_true,decide_eq_true_eq,↓reduceIte]
 refine ⟨by decide,?_⟩
 refine wFor_map (fun L=>D.str (sd L)) (fun _ δ=>∃ s4 s5 s6 s7 s8:Sl,δ = [.val (.lst (ns.map .int)),.val (.lst (nms.map .str)),.val (enc A),.val (.lst ((mks true A).map mkD)),s4,s5,s6,s7,s8,.no]) ?_ ?_ [true,false] _ ⟨_,_,_,_,_,rfl⟩
 · rintro L _ δ ⟨s4,s5,s6,s7,s8,rfl⟩
   refine wTg_nm.mpr ?_
   simp only [↓wSet_zip,↓wZip_succ,↓wZip_zero,↓wRev_cons,↓wRev_nil]
   refine wSs_cut (R:=fun δ=>∃ t:Str,δ = [.val (.lst (ns.map .int)),.val (.lst (nms.map .str)),.val (enc A),.val (.lst ((mks true A).map mkD)),.val (.str (sd L)),.val (.lst ((brs L t A).map bD)),s6,s7,s8,.no]) 1 _ _ ?_ ?_
   · simp only [takeS,↓nxS_nx,↓WS,↓WC,ite_true,ite_false,Bool.false_eq_true,decide_eq_true_eq,↓reduceIte]
     refine wRun_mono (r_cell 198 ns 0 (by decide) (by decide)) ?_
     rintro _ ⟨c,rfl⟩
     simp only [↓WS,↓WC,ite_true,ite_false,Bool.false_eq_true,decide_eq_true_eq,↓reduceIte]
     obtain ⟨t,_,et⟩:=at_strs (ts:=nms) (j:=c % 4) (Int.emod_nonneg _ (by decide)) (by rw [hm];exact Int.emod_lt_of_pos _ (by decide))
     refine ⟨by decide,_,et,(wRun_eq (r_parts L nms hnm t 198 (by decide) A oA.1 oA.2.1 hA)).mpr ?_⟩
     exact ⟨t,rfl⟩
   · rintro _ ⟨t,rfl⟩
     exact r_side 198 (by decide) _ ws nms hw A hA oA _ hnm t L _ _ _ _ _ fun s6 s7 s8=>⟨_,_,_,_,_,rfl⟩
 · rintro δ ⟨s4,s5,s6,s7,s8,rfl⟩
   simp only [↓WS,↓WC,ite_true,ite_false,Bool.false_eq_true,decide_eq_true_eq,↓reduceIte]
   refine wRun_mono (r_cell 198 ns 1 (by decide) (by decide)) ?_
   rintro _ ⟨c,rfl⟩
   simp only [↓WS,↓WC,ite_true,ite_false,Bool.false_eq_true,decide_eq_true_eq,↓reduceIte]
   refine ⟨by decide,by decide,wRun_mono (r_words 196 ns) ?_⟩
   rintro _ ⟨ws,rfl,hw⟩
   refine wRun_mono (r_leaf 198 _ ws nms hw hm) ?_
   rintro _ ⟨C,rfl,hC,oC⟩
   have hC2:=ht_sg C
   have v1:=r_marked 198 C hC
   have v2:PP.run Gs gls 199 8 [.str "right",.tup [.str "not",enc C]] = some (.lst (srt ((mks true C).map mkD))):=r_marks (.un .neg C) 198 false (by simp only [ht];omega) (by simp only [sg];omega) hw (inC_any oC.2.2 false)
   have v3:PP.run Gs gls 199 8 [.str "right",.tup [.str "if",enc C,.tup [.str "no"]]] = some (.lst (srt ((mks true C++[]).map mkD))):=r_marks (.bi .imp C .no) 198 false (by simp only [ht];omega) (by simp only [sg];omega) hw (inC_bi .imp oC.2.2 fun m h=>by cases h)
   have v4:=told_of hw 198 (L:=true) (by omega) oC.2.2 _ fun x=>Iff.rfl
   rw [List.append_nil] at v3
   simp only [↓wRun_eq v1,↓WS,↓WC,ite_true,ite_false,Bool.false_eq_true,decide_eq_true_eq,↓reduceIte]
   simp only [si,↓wIx_tup1,↓wRun_eq v2,↓wRun_eq v3,↓wRun_eq v4,List.length_cons,List.length_nil,↓WS,↓WC,ite_true,ite_false,Bool.false_eq_true,decide_eq_true_eq,↓reduceIte]
   exact ⟨by decide,by decide,by decide⟩
end P1
end
section
namespace P1
open PySem L2 PP
theorem ck_inside:ckSs ⟨d_inside.ps++d_inside.loc,defScope (top 3),cfOf Gd,gns⟩ d_inside.body (defBody (top 3)) = true:=by decide +kernel
theorem sc_inside:FnScope (d_inside.ps++d_inside.loc) d_inside.ps (defScope (top 3)):=⟨rfl,rfl,rfl,by decide +kernel,rfl,by decide +kernel,by decide +kernel⟩
theorem ck_is_place:ckSs ⟨d_is_place.ps++d_is_place.loc,defScope (top 4),cfOf Gd,gns⟩ d_is_place.body (defBody (top 4)) = true:=by decide +kernel
theorem sc_is_place:FnScope (d_is_place.ps++d_is_place.loc) d_is_place.ps (defScope (top 4)):=⟨rfl,rfl,rfl,by decide +kernel,rfl,by decide +kernel,by decide +kernel⟩
theorem ck_with_terms:ckSs ⟨d_with_terms.ps++d_with_terms.loc,defScope (top 5),cfOf Gd,gns⟩ d_with_terms.body (defBody (top 5)) = true:=by decide +kernel
theorem sc_with_terms:FnScope (d_with_terms.ps++d_with_terms.loc) d_with_terms.ps (defScope (top 5)):=⟨rfl,rfl,rfl,by decide +kernel,rfl,by decide +kernel,by decide +kernel⟩
theorem sc_put_in:FnScope (d_put_in.ps++d_put_in.loc) d_put_in.ps (defScope (top 6)):=⟨rfl,rfl,rfl,by decide +kernel,rfl,by decide +kernel,by decide +kernel⟩
theorem ck_other_side:ckSs ⟨d_other_side.ps++d_other_side.loc,defScope (top 9),cfOf Gd,gns⟩ d_other_side.body (defBody (top 9)) = true:=by decide +kernel
theorem sc_other_side:FnScope (d_other_side.ps++d_other_side.loc) d_other_side.ps (defScope (top 9)):=⟨rfl,rfl,rfl,by decide +kernel,rfl,by decide +kernel,by decide +kernel⟩
theorem ck_signed_within:ckSs ⟨d_signed_within.ps++d_signed_within.loc,defScope (top 10),cfOf Gd,gns⟩ d_signed_within.body (defBody (top 10)) = true:=by decide +kernel
theorem sc_signed_within:FnScope (d_signed_within.ps++d_signed_within.loc) d_signed_within.ps (defScope (top 10)):=⟨rfl,rfl,rfl,by decide +kernel,rfl,by decide +kernel,by decide +kernel⟩
theorem ck_parts:ckSs ⟨d_parts.ps++d_parts.loc,defScope (top 11),cfOf Gd,gns⟩ d_parts.body (defBody (top 11)) = true:=by decide +kernel
theorem sc_parts:FnScope (d_parts.ps++d_parts.loc) d_parts.ps (defScope (top 11)):=⟨rfl,rfl,rfl,by decide +kernel,rfl,by decide +kernel,by decide +kernel⟩
theorem ck_marks_within:ckSs ⟨d_marks_within.ps++d_marks_within.loc,defScope (top 12),cfOf Gd,gns⟩ d_marks_within.body (defBody (top 12)) = true:=by decide +kernel
theorem sc_marks_within:FnScope (d_marks_within.ps++d_marks_within.loc) d_marks_within.ps (defScope (top 12)):=⟨rfl,rfl,rfl,by decide +kernel,rfl,by decide +kernel,by decide +kernel⟩
theorem ck_marks:ckSs ⟨d_marks.ps++d_marks.loc,defScope (top 13),cfOf Gd,gns⟩ d_marks.body (defBody (top 13)) = true:=by decide +kernel
theorem sc_marks:FnScope (d_marks.ps++d_marks.loc) d_marks.ps (defScope (top 13)):=⟨rfl,rfl,rfl,by decide +kernel,rfl,by decide +kernel,by decide +kernel⟩
theorem ck__law_cell:ckSs ⟨d__law_cell.ps++d__law_cell.loc,defScope (top 15),cfOf Gd,gns⟩ d__law_cell.body (defBody (top 15)) = true:=by decide +kernel
theorem sc__law_cell:FnScope (d__law_cell.ps++d__law_cell.loc) d__law_cell.ps (defScope (top 15)):=⟨rfl,rfl,rfl,by decide +kernel,rfl,by decide +kernel,by decide +kernel⟩
theorem ck__law_cells:ckSs ⟨d__law_cells.ps++d__law_cells.loc,defScope (top 16),cfOf Gd,gns⟩ d__law_cells.body (defBody (top 16)) = true:=by decide +kernel
theorem sc__law_cells:FnScope (d__law_cells.ps++d__law_cells.loc) d__law_cells.ps (defScope (top 16)):=⟨rfl,rfl,rfl,by decide +kernel,rfl,by decide +kernel,by decide +kernel⟩
theorem ck__law_letters:ckSs ⟨d__law_letters.ps++d__law_letters.loc,defScope (top 17),cfOf Gd,gns⟩ d__law_letters.body (defBody (top 17)) = true:=by decide +kernel
theorem sc__law_letters:FnScope (d__law_letters.ps++d__law_letters.loc) d__law_letters.ps (defScope (top 17)):=⟨rfl,rfl,rfl,by decide +kernel,rfl,by decide +kernel,by decide +kernel⟩
theorem ck__law_family:ckSs ⟨d__law_family.ps++d__law_family.loc,defScope (top 18),cfOf Gd,gns⟩ d__law_family.body (defBody (top 18)) = true:=by decide +kernel
theorem sc__law_family:FnScope (d__law_family.ps++d__law_family.loc) d__law_family.ps (defScope (top 18)):=⟨rfl,rfl,rfl,by decide +kernel,rfl,by decide +kernel,by decide +kernel⟩
theorem ck__law_wide:ckSs ⟨d__law_wide.ps++d__law_wide.loc,defScope (top 19),cfOf Gd,gns⟩ d__law_wide.body (defBody (top 19)) = true:=by decide +kernel
theorem sc__law_wide:FnScope (d__law_wide.ps++d__law_wide.loc) d__law_wide.ps (defScope (top 19)):=⟨rfl,rfl,rfl,by decide +kernel,rfl,by decide +kernel,by decide +kernel⟩
theorem ck__law_words:ckSs ⟨d__law_words.ps++d__law_words.loc,defScope (top 20),cfOf Gd,gns⟩ d__law_words.body (defBody (top 20)) = true:=by decide +kernel
theorem sc__law_words:FnScope (d__law_words.ps++d__law_words.loc) d__law_words.ps (defScope (top 20)):=⟨rfl,rfl,rfl,by decide +kernel,rfl,by decide +kernel,by decide +kernel⟩
theorem ck__law_names:ckSs ⟨d__law_names.ps++d__law_names.loc,defScope (top 21),cfOf Gd,gns⟩ d__law_names.body (defBody (top 21)) = true:=by decide +kernel
theorem sc__law_names:FnScope (d__law_names.ps++d__law_names.loc) d__law_names.ps (defScope (top 21)):=⟨rfl,rfl,rfl,by decide +kernel,rfl,by decide +kernel,by decide +kernel⟩
theorem ck__law_leaf:ckSs ⟨d__law_leaf.ps++d__law_leaf.loc,defScope (top 22),cfOf Gd,gns⟩ d__law_leaf.body (defBody (top 22)) = true:=by decide +kernel
theorem sc__law_leaf:FnScope (d__law_leaf.ps++d__law_leaf.loc) d__law_leaf.ps (defScope (top 22)):=⟨rfl,rfl,rfl,by decide +kernel,rfl,by decide +kernel,by decide +kernel⟩
theorem ck__law_bound:ckSs ⟨d__law_bound.ps++d__law_bound.loc,defScope (top 23),cfOf Gd,gns⟩ d__law_bound.body (defBody (top 23)) = true:=by decide +kernel
theorem sc__law_bound:FnScope (d__law_bound.ps++d__law_bound.loc) d__law_bound.ps (defScope (top 23)):=⟨rfl,rfl,rfl,by decide +kernel,rfl,by decide +kernel,by decide +kernel⟩
theorem ck__law_other:ckSs ⟨d__law_other.ps++d__law_other.loc,defScope (top 24),cfOf Gd,gns⟩ d__law_other.body (defBody (top 24)) = true:=by decide +kernel
theorem sc__law_other:FnScope (d__law_other.ps++d__law_other.loc) d__law_other.ps (defScope (top 24)):=⟨rfl,rfl,rfl,by decide +kernel,rfl,by decide +kernel,by decide +kernel⟩
theorem ck__law_joined:ckSs ⟨d__law_joined.ps++d__law_joined.loc,defScope (top 25),cfOf Gd,gns⟩ d__law_joined.body (defBody (top 25)) = true:=by decide +kernel
theorem sc__law_joined:FnScope (d__law_joined.ps++d__law_joined.loc) d__law_joined.ps (defScope (top 25)):=⟨rfl,rfl,rfl,by decide +kernel,rfl,by decide +kernel,by decide +kernel⟩
theorem ck__law_marked:ckSs ⟨d__law_marked.ps++d__law_marked.loc,defScope (top 26),cfOf Gd,gns⟩ d__law_marked.body (defBody (top 26)) = true:=by decide +kernel
theorem sc__law_marked:FnScope (d__law_marked.ps++d__law_marked.loc) d__law_marked.ps (defScope (top 26)):=⟨rfl,rfl,rfl,by decide +kernel,rfl,by decide +kernel,by decide +kernel⟩
theorem ck__law_built:ckSs ⟨d__law_built.ps++d__law_built.loc,defScope (top 27),cfOf Gd,gns⟩ d__law_built.body (defBody (top 27)) = true:=by decide +kernel
theorem sc__law_built:FnScope (d__law_built.ps++d__law_built.loc) d__law_built.ps (defScope (top 27)):=⟨rfl,rfl,rfl,by decide +kernel,rfl,by decide +kernel,by decide +kernel⟩
theorem ck__law_told:ckSs ⟨d__law_told.ps++d__law_told.loc,defScope (top 28),cfOf Gd,gns⟩ d__law_told.body (defBody (top 28)) = true:=by decide +kernel
theorem sc__law_told:FnScope (d__law_told.ps++d__law_told.loc) d__law_told.ps (defScope (top 28)):=⟨rfl,rfl,rfl,by decide +kernel,rfl,by decide +kernel,by decide +kernel⟩
theorem ck_law:ckSs ⟨d_law.ps++d_law.loc,defScope (top 29),cfOf Gd,gns⟩ d_law.body (defBody (top 29)) = true:=by decide +kernel
theorem sc_law:FnScope (d_law.ps++d_law.loc) d_law.ps (defScope (top 29)):=⟨rfl,rfl,rfl,by decide +kernel,rfl,by decide +kernel,by decide +kernel⟩
theorem lo_0:LamOk L0:=⟨rfl,rfl,rfl,by decide +kernel,by decide +kernel,by decide +kernel,by decide +kernel,by decide +kernel,fun _ _ _ _ us hl=>us2 (fun _ _=>rfl) us hl⟩
theorem ln_0:Ln Gs Gd gns 24 L0:=⟨lo_0,d_lam0,(.ite (.and (.call 1 (.cons (.var 0) .nil)) (.cmp .eq (.blt .toInt (.cons (.var 0) .nil)) (.var 1))) (.var 2) (.var 0)),rfl,rfl,rfl,rfl,rfl,rfl,by decide +kernel⟩
theorem mem_ts {t:Addr × Str} (h:t∈Tbs.ts):t = (37,("put_in.<locals>.<lambda>":Str)):=by
 have h:t∈[(37,("put_in.<locals>.<lambda>":Str))]:=h
 simpa only [List.mem_cons,List.not_mem_nil,or_false] using h
theorem all_mk {l:PySem.W.OpenLaw} {w:World} {K:PySem.W.Frag} {h:Heap} {mg:Str→Option Value} {fa:Addr} (X:K.In h) (G:h.Ns mainGlobals mg) (hfa:mg "law" = some (.ref fa))
 {cc3:Addr}
 {f0 f1 f2 f3 f4 f5 f6 f7 f8 f9 f10 f11 f12 f13 f14 f15 f16 f17 f18 f19 f20 f21 f22 f23:Addr} {od0 an0 od1 an1 od2 an2 od3 an3 od4 an4 od5 an5 od6 an6 od7 an7 od8 an8 od9 an9 od10 an10 od11 an11 od12 an12 od13 an13 od14 an14 od15 an15 od16 an16 od17 an17 od18 an18 od19 an19 od20 an20 od21 an21 od22 an22 od23 an23:Option Addr} {sl0 sl1 sl2 sl3 sl4 sl5 sl6 sl7 sl8 sl9 sl10 sl11 sl12 sl13 sl14 sl15 sl16 sl17 sl18 sl19 sl20 sl21 sl22 sl23:Array (Option Value)} {oc0 kV0 dc0 pm0 cd0 ct0 oc1 kV1 dc1 pm1 cd1 ct1 oc2 kV2 dc2 pm2 cd2 ct2 oc3 kV3 dc3 pm3  ct3 oc4 kV4 dc4 pm4 cd4 ct4 oc5 kV5 dc5 pm5 cd5 ct5 oc6 kV6 dc6 pm6 cd6 ct6 oc7 kV7 dc7 pm7 cd7 ct7 oc8 kV8 dc8 pm8 cd8 ct8 oc9 kV9 dc9 pm9 cd9 ct9 oc10 kV10 dc10 pm10 cd10 ct10 oc11 kV11 dc11 pm11 cd11 ct11 oc12 kV12 dc12 pm12 cd12 ct12 oc13 kV13 dc13 pm13 cd13 ct13 oc14 kV14 dc14 pm14 cd14 ct14 oc15 kV15 dc15 pm15 cd15 ct15 oc16 kV16 dc16 pm16 cd16 ct16 oc17 kV17 dc17 pm17 cd17 ct17 oc18 kV18 dc18 pm18 cd18 ct18 oc19 kV19 dc19 pm19 cd19 ct19 oc20 kV20 dc20 pm20 cd20 ct20 oc21 kV21 dc21 pm21 cd21 ct21 oc22 kV22 dc22 pm22 cd22 ct22 oc23 kV23 dc23 pm23 cd23 ct23:Value}
 (a0:PySem.W.nsIn K mainGlobals "inside" = some (some (.ref f0))) (l0:K.lookup f0 = some ⟨oc0,od0,.func (PySem.W.fnOf "inside" "inside" (defArgs (top 3)) (defBody (top 3)) (defScope (top 3)) .none kV0 dc0 pm0 an0 cd0 ct0),sl0⟩) (c0:PySem.W.codeIn K cd0 "inside" = true) (k0:PySem.W.keepIn K (.ref f0) = true)
 (a1:PySem.W.nsIn K mainGlobals "is_place" = some (some (.ref f1))) (l1:K.lookup f1 = some ⟨oc1,od1,.func (PySem.W.fnOf "is_place" "is_place" (defArgs (top 4)) (defBody (top 4)) (defScope (top 4)) .none kV1 dc1 pm1 an1 cd1 ct1),sl1⟩) (c1:PySem.W.codeIn K cd1 "is_place" = true) (k1:PySem.W.keepIn K (.ref f1) = true)
 (a2:PySem.W.nsIn K mainGlobals "with_terms" = some (some (.ref f2))) (l2:K.lookup f2 = some ⟨oc2,od2,.func (PySem.W.fnOf "with_terms" "with_terms" (defArgs (top 5)) (defBody (top 5)) (defScope (top 5)) .none kV2 dc2 pm2 an2 cd2 ct2),sl2⟩) (c2:PySem.W.codeIn K cd2 "with_terms" = true) (k2:PySem.W.keepIn K (.ref f2) = true)
 (a3:PySem.W.nsIn K mainGlobals "put_in" = some (some (.ref f3))) (l3:K.lookup f3 = some ⟨oc3,od3,.func (PySem.W.fnOf "put_in" "put_in" (defArgs (top 6)) (defBody (top 6)) (defScope (top 6)) .none kV3 dc3 pm3 an3 (.ref cc3) ct3),sl3⟩) (c3:PySem.W.codeIn K (.ref cc3) "put_in" = true) (k3:PySem.W.keepIn K (.ref f3) = true) (h3:PySem.W.codeHdIn K cc3 37 = true) (t3:K.lookup 37 = none)
 (a4:PySem.W.nsIn K mainGlobals "other_side" = some (some (.ref f4))) (l4:K.lookup f4 = some ⟨oc4,od4,.func (PySem.W.fnOf "other_side" "other_side" (defArgs (top 9)) (defBody (top 9)) (defScope (top 9)) .none kV4 dc4 pm4 an4 cd4 ct4),sl4⟩) (c4:PySem.W.codeIn K cd4 "other_side" = true) (k4:PySem.W.keepIn K (.ref f4) = true)
 (a5:PySem.W.nsIn K mainGlobals "signed_within" = some (some (.ref f5))) (l5:K.lookup f5 = some ⟨oc5,od5,.func (PySem.W.fnOf "signed_within" "signed_within" (defArgs (top 10)) (defBody (top 10)) (defScope (top 10)) .none kV5 dc5 pm5 an5 cd5 ct5),sl5⟩) (c5:PySem.W.codeIn K cd5 "signed_within" = true) (k5:PySem.W.keepIn K (.ref f5) = true)
 (a6:PySem.W.nsIn K mainGlobals "parts" = some (some (.ref f6))) (l6:K.lookup f6 = some ⟨oc6,od6,.func (PySem.W.fnOf "parts" "parts" (defArgs (top 11)) (defBody (top 11)) (defScope (top 11)) .none kV6 dc6 pm6 an6 cd6 ct6),sl6⟩) (c6:PySem.W.codeIn K cd6 "parts" = true) (k6:PySem.W.keepIn K (.ref f6) = true)
 (a7:PySem.W.nsIn K mainGlobals "marks_within" = some (some (.ref f7))) (l7:K.lookup f7 = some ⟨oc7,od7,.func (PySem.W.fnOf "marks_within" "marks_within" (defArgs (top 12)) (defBody (top 12)) (defScope (top 12)) .none kV7 dc7 pm7 an7 cd7 ct7),sl7⟩) (c7:PySem.W.codeIn K cd7 "marks_within" = true) (k7:PySem.W.keepIn K (.ref f7) = true)
 (a8:PySem.W.nsIn K mainGlobals "marks" = some (some (.ref f8))) (l8:K.lookup f8 = some ⟨oc8,od8,.func (PySem.W.fnOf "marks" "marks" (defArgs (top 13)) (defBody (top 13)) (defScope (top 13)) .none kV8 dc8 pm8 an8 cd8 ct8),sl8⟩) (c8:PySem.W.codeIn K cd8 "marks" = true) (k8:PySem.W.keepIn K (.ref f8) = true)
 (a9:PySem.W.nsIn K mainGlobals "_law_cell" = some (some (.ref f9))) (l9:K.lookup f9 = some ⟨oc9,od9,.func (PySem.W.fnOf "_law_cell" "_law_cell" (defArgs (top 15)) (defBody (top 15)) (defScope (top 15)) .none kV9 dc9 pm9 an9 cd9 ct9),sl9⟩) (c9:PySem.W.codeIn K cd9 "_law_cell" = true) (k9:PySem.W.keepIn K (.ref f9) = true)
 (a10:PySem.W.nsIn K mainGlobals "_law_cells" = some (some (.ref f10))) (l10:K.lookup f10 = some ⟨oc10,od10,.func (PySem.W.fnOf "_law_cells" "_law_cells" (defArgs (top 16)) (defBody (top 16)) (defScope (top 16)) .none kV10 dc10 pm10 an10 cd10 ct10),sl10⟩) (c10:PySem.W.codeIn K cd10 "_law_cells" = true) (k10:PySem.W.keepIn K (.ref f10) = true)
 (a11:PySem.W.nsIn K mainGlobals "_law_letters" = some (some (.ref f11))) (l11:K.lookup f11 = some ⟨oc11,od11,.func (PySem.W.fnOf "_law_letters" "_law_letters" (defArgs (top 17)) (defBody (top 17)) (defScope (top 17)) .none kV11 dc11 pm11 an11 cd11 ct11),sl11⟩) (c11:PySem.W.codeIn K cd11 "_law_letters" = true) (k11:PySem.W.keepIn K (.ref f11) = true)
 (a12:PySem.W.nsIn K mainGlobals "_law_family" = some (some (.ref f12))) (l12:K.lookup f12 = some ⟨oc12,od12,.func (PySem.W.fnOf "_law_family" "_law_family" (defArgs (top 18)) (defBody (top 18)) (defScope (top 18)) .none kV12 dc12 pm12 an12 cd12 ct12),sl12⟩) (c12:PySem.W.codeIn K cd12 "_law_family" = true) (k12:PySem.W.keepIn K (.ref f12) = true)
 (a13:PySem.W.nsIn K mainGlobals "_law_wide" = some (some (.ref f13))) (l13:K.lookup f13 = some ⟨oc13,od13,.func (PySem.W.fnOf "_law_wide" "_law_wide" (defArgs (top 19)) (defBody (top 19)) (defScope (top 19)) .none kV13 dc13 pm13 an13 cd13 ct13),sl13⟩) (c13:PySem.W.codeIn K cd13 "_law_wide" = true) (k13:PySem.W.keepIn K (.ref f13) = true)
 (a14:PySem.W.nsIn K mainGlobals "_law_words" = some (some (.ref f14))) (l14:K.lookup f14 = some ⟨oc14,od14,.func (PySem.W.fnOf "_law_words" "_law_words" (defArgs (top 20)) (defBody (top 20)) (defScope (top 20)) .none kV14 dc14 pm14 an14 cd14 ct14),sl14⟩) (c14:PySem.W.codeIn K cd14 "_law_words" = true) (k14:PySem.W.keepIn K (.ref f14) = true)
 (a15:PySem.W.nsIn K mainGlobals "_law_names" = some (some (.ref f15))) (l15:K.lookup f15 = some ⟨oc15,od15,.func (PySem.W.fnOf "_law_names" "_law_names" (defArgs (top 21)) (defBody (top 21)) (defScope (top 21)) .none kV15 dc15 pm15 an15 cd15 ct15),sl15⟩) (c15:PySem.W.codeIn K cd15 "_law_names" = true) (k15:PySem.W.keepIn K (.ref f15) = true)
 (a16:PySem.W.nsIn K mainGlobals "_law_leaf" = some (some (.ref f16))) (l16:K.lookup f16 = some ⟨oc16,od16,.func (PySem.W.fnOf "_law_leaf" "_law_leaf" (defArgs (top 22)) (defBody (top 22)) (defScope (top 22)) .none kV16 dc16 pm16 an16 cd16 ct16),sl16⟩) (c16:PySem.W.codeIn K cd16 "_law_leaf" = true) (k16:PySem.W.keepIn K (.ref f16) = true)
 (a17:PySem.W.nsIn K mainGlobals "_law_bound" = some (some (.ref f17))) (l17:K.lookup f17 = some ⟨oc17,od17,.func (PySem.W.fnOf "_law_bound" "_law_bound" (defArgs (top 23)) (defBody (top 23)) (defScope (top 23)) .none kV17 dc17 pm17 an17 cd17 ct17),sl17⟩) (c17:PySem.W.codeIn K cd17 "_law_bound" = true) (k17:PySem.W.keepIn K (.ref f17) = true)
 (a18:PySem.W.nsIn K mainGlobals "_law_other" = some (some (.ref f18))) (l18:K.lookup f18 = some ⟨oc18,od18,.func (PySem.W.fnOf "_law_other" "_law_other" (defArgs (top 24)) (defBody (top 24)) (defScope (top 24)) .none kV18 dc18 pm18 an18 cd18 ct18),sl18⟩) (c18:PySem.W.codeIn K cd18 "_law_other" = true) (k18:PySem.W.keepIn K (.ref f18) = true)
 (a19:PySem.W.nsIn K mainGlobals "_law_joined" = some (some (.ref f19))) (l19:K.lookup f19 = some ⟨oc19,od19,.func (PySem.W.fnOf "_law_joined" "_law_joined" (defArgs (top 25)) (defBody (top 25)) (defScope (top 25)) .none kV19 dc19 pm19 an19 cd19 ct19),sl19⟩) (c19:PySem.W.codeIn K cd19 "_law_joined" = true) (k19:PySem.W.keepIn K (.ref f19) = true)
 (a20:PySem.W.nsIn K mainGlobals "_law_marked" = some (some (.ref f20))) (l20:K.lookup f20 = some ⟨oc20,od20,.func (PySem.W.fnOf "_law_marked" "_law_marked" (defArgs (top 26)) (defBody (top 26)) (defScope (top 26)) .none kV20 dc20 pm20 an20 cd20 ct20),sl20⟩) (c20:PySem.W.codeIn K cd20 "_law_marked" = true) (k20:PySem.W.keepIn K (.ref f20) = true)
 (a21:PySem.W.nsIn K mainGlobals "_law_built" = some (some (.ref f21))) (l21:K.lookup f21 = some ⟨oc21,od21,.func (PySem.W.fnOf "_law_built" "_law_built" (defArgs (top 27)) (defBody (top 27)) (defScope (top 27)) .none kV21 dc21 pm21 an21 cd21 ct21),sl21⟩) (c21:PySem.W.codeIn K cd21 "_law_built" = true) (k21:PySem.W.keepIn K (.ref f21) = true)
 (a22:PySem.W.nsIn K mainGlobals "_law_told" = some (some (.ref f22))) (l22:K.lookup f22 = some ⟨oc22,od22,.func (PySem.W.fnOf "_law_told" "_law_told" (defArgs (top 28)) (defBody (top 28)) (defScope (top 28)) .none kV22 dc22 pm22 an22 cd22 ct22),sl22⟩) (c22:PySem.W.codeIn K cd22 "_law_told" = true) (k22:PySem.W.keepIn K (.ref f22) = true)
 (a23:PySem.W.nsIn K mainGlobals "law" = some (some (.ref f23))) (l23:K.lookup f23 = some ⟨oc23,od23,.func (PySem.W.fnOf "law" "law" (defArgs (top 29)) (defBody (top 29)) (defScope (top 29)) .none kV23 dc23 pm23 an23 cd23 ct23),sl23⟩) (c23:PySem.W.codeIn K cd23 "law" = true) (k23:PySem.W.keepIn K (.ref f23) = true)
 (z0:PySem.W.nsIn K mainGlobals "len" = some none)
 (z1:PySem.W.nsIn K mainGlobals "min" = some none)
 (z2:PySem.W.nsIn K mainGlobals "max" = some none)
 (z3:PySem.W.nsIn K mainGlobals "int" = some none)
 (z4:PySem.W.nsIn K mainGlobals "str" = some none)
 (z5:PySem.W.nsIn K mainGlobals "tuple" = some none)
 (z6:PySem.W.nsIn K mainGlobals "list" = some none)
 (z7:PySem.W.nsIn K mainGlobals "sum" = some none)
 (z8:PySem.W.nsIn K mainGlobals "isinstance" = some none)
 (z9:PySem.W.nsIn K mainGlobals "bool" = some none)
 (z10:PySem.W.nsIn K mainGlobals "range" = some none)
 (z11:PySem.W.nsIn K mainGlobals "sorted" = some none)
 (z12:PySem.W.nsIn K mainGlobals "set" = some none)
 (z13:PySem.W.nsIn K mainGlobals "zip" = some none)
 (z14:PySem.W.nsIn K mainGlobals "any" = some none)
 {t0_0:Tok}
 {t0_1:Tok}
 {t0_2:Tok}
 {g0:Addr} {gD0:Option Addr} {gS0:Array (Option Value)} {gn0:Nat} (ga0:PySem.W.nsIn K mainGlobals "LEAVES" = some (some (.ref g0))) (gb0:K.lookup g0 = some ⟨.type "tuple",gD0,.seq #[.str "yes" t0_0,.str "no" t0_1,.str "word" t0_2] gn0,gS0⟩)
 {t1_0:Tok}
 {t1_1:Tok}
 {g1:Addr} {gD1:Option Addr} {gS1:Array (Option Value)} {gn1:Nat} (ga1:PySem.W.nsIn K mainGlobals "BINDERS" = some (some (.ref g1))) (gb1:K.lookup g1 = some ⟨.type "tuple",gD1,.seq #[.str "all" t1_0,.str "some" t1_1] gn1,gS1⟩)
 {g2x0:Addr} {gD2x0:Option Addr} {gS2x0:Array (Option Value)} {gn2x0:Nat} {t2x0_0 t2x0_1:Tok}
 {g2x1:Addr} {gD2x1:Option Addr} {gS2x1:Array (Option Value)} {gn2x1:Nat} {t2x1_0 t2x1_1:Tok}
 {g2x2:Addr} {gD2x2:Option Addr} {gS2x2:Array (Option Value)} {gn2x2:Nat} {t2x2_0 t2x2_1:Tok}
 {g2:Addr} {gD2:Option Addr} {gS2:Array (Option Value)} {gn2:Nat} (ga2:PySem.W.nsIn K mainGlobals "FORKS" = some (some (.ref g2))) (gb2:K.lookup g2 = some ⟨.type "tuple",gD2,.seq #[.ref g2x0,.ref g2x1,.ref g2x2] gn2,gS2⟩)
 (gc2x0:K.lookup g2x0 = some ⟨.type "tuple",gD2x0,.seq #[.str "right" t2x0_0,.str "and" t2x0_1] gn2x0,gS2x0⟩)
 (gc2x1:K.lookup g2x1 = some ⟨.type "tuple",gD2x1,.seq #[.str "left" t2x1_0,.str "or" t2x1_1] gn2x1,gS2x1⟩)
 (gc2x2:K.lookup g2x2 = some ⟨.type "tuple",gD2x2,.seq #[.str "left" t2x2_0,.str "if" t2x2_1] gn2x2,gS2x2⟩)
 : ∃ (st:Stmt) (fdd:FuncData),(∀ (s:Shared) (u:Value),BindsTo s fdd ⟨[u],[]⟩ [("_law_script",u)])∧Top K mg Gs Gd gls gns∧Dn K mg (cfOf Gd) gns d_law st fa fdd∧∀ t∈Tbs.ts,K.lookup t.1 = none∧∃ c,PySem.W.codeHdIn K c t.1 = true:=by
 have e:=hfa.symm.trans (PySem.W.mg_of X G a23)
 cases e
 have F0:=fun_mk (st:=top 3) l0 c0 k0
 have D0:Dn K mg (cfOf Gd) gns d_inside (top 3) _ _:=⟨F0,PySem.W.mg_of X G a0,sc_inside,.inl ck_inside,F0.binds (ps:=d_inside.ps) fun _ _ _ _ _ _ us hl=>us1 (fun _=>rfl) us hl⟩
 have F1:=fun_mk (st:=top 4) l1 c1 k1
 have D1:Dn K mg (cfOf Gd) gns d_is_place (top 4) _ _:=⟨F1,PySem.W.mg_of X G a1,sc_is_place,.inl ck_is_place,F1.binds (ps:=d_is_place.ps) fun _ _ _ _ _ _ us hl=>us1 (fun _=>rfl) us hl⟩
 have F2:=fun_mk (st:=top 5) l2 c2 k2
 have D2:Dn K mg (cfOf Gd) gns d_with_terms (top 5) _ _:=⟨F2,PySem.W.mg_of X G a2,sc_with_terms,.inl ck_with_terms,F2.binds (ps:=d_with_terms.ps) fun _ _ _ _ _ _ us hl=>us3 (fun _ _ _=>rfl) us hl⟩
 have F3:=fun_mk (st:=top 6) l3 c3 k3
 have D3:Dn K mg (cfOf Gd) gns d_put_in (top 6) _ _:=⟨F3,PySem.W.mg_of X G a3,sc_put_in,.inr ⟨{ f:=2,es:=(.cons (.var 0) (.cons (.int 0) .nil)),k:=24,caps:=[1],x:="with_terms",ps:=d_with_terms.ps,y:=(rxs (top 6)).headD (.Constant .none 0 ⟨0,0,0,0⟩),ys:=(rxs (top 6)).dropLast.tail,p:=(rps (top 6)).1,lp:=lamP (rlm (top 6)),pos:=(rps (top 6)).2.1,rp:=(rps (top 6)).2.2,L:=L0,c:=cc3,P:=37,cells:=fun l=>[l+1],body:=rfl,text:=rfl,lam:=rfl,args:=by decide +kernel,npk:=rfl,fn:=rfl,gl:=by decide +kernel,nd:=by decide +kernel,dft:=fun _=>rfl,cl:=fun _ _ _=>rfl,cp:=fun X l a cd hN hE=>⟨_,_,_,_,rfl,rfl,by rw [hN];rfl,by rw [hE];rfl,by rw [hE];rfl,⟨rfl,rfl⟩⟩,code:=rfl,hd:=h3,tb:=by decide +kernel,un:=by decide +kernel,ql:=by decide +kernel }⟩,F3.binds (ps:=d_put_in.ps) fun _ _ _ _ _ _ us hl=>us2 (fun _ _=>rfl) us hl⟩
 have F4:=fun_mk (st:=top 9) l4 c4 k4
 have D4:Dn K mg (cfOf Gd) gns d_other_side (top 9) _ _:=⟨F4,PySem.W.mg_of X G a4,sc_other_side,.inl ck_other_side,F4.binds (ps:=d_other_side.ps) fun _ _ _ _ _ _ us hl=>us1 (fun _=>rfl) us hl⟩
 have F5:=fun_mk (st:=top 10) l5 c5 k5
 have D5:Dn K mg (cfOf Gd) gns d_signed_within (top 10) _ _:=⟨F5,PySem.W.mg_of X G a5,sc_signed_within,.inl ck_signed_within,F5.binds (ps:=d_signed_within.ps) fun _ _ _ _ _ _ us hl=>us2 (fun _ _=>rfl) us hl⟩
 have F6:=fun_mk (st:=top 11) l6 c6 k6
 have D6:Dn K mg (cfOf Gd) gns d_parts (top 11) _ _:=⟨F6,PySem.W.mg_of X G a6,sc_parts,.inl ck_parts,F6.binds (ps:=d_parts.ps) fun _ _ _ _ _ _ us hl=>us3 (fun _ _ _=>rfl) us hl⟩
 have F7:=fun_mk (st:=top 12) l7 c7 k7
 have D7:Dn K mg (cfOf Gd) gns d_marks_within (top 12) _ _:=⟨F7,PySem.W.mg_of X G a7,sc_marks_within,.inl ck_marks_within,F7.binds (ps:=d_marks_within.ps) fun _ _ _ _ _ _ us hl=>us2 (fun _ _=>rfl) us hl⟩
 have F8:=fun_mk (st:=top 13) l8 c8 k8
 have D8:Dn K mg (cfOf Gd) gns d_marks (top 13) _ _:=⟨F8,PySem.W.mg_of X G a8,sc_marks,.inl ck_marks,F8.binds (ps:=d_marks.ps) fun _ _ _ _ _ _ us hl=>us2 (fun _ _=>rfl) us hl⟩
 have F9:=fun_mk (st:=top 15) l9 c9 k9
 have D9:Dn K mg (cfOf Gd) gns d__law_cell (top 15) _ _:=⟨F9,PySem.W.mg_of X G a9,sc__law_cell,.inl ck__law_cell,F9.binds (ps:=d__law_cell.ps) fun _ _ _ _ _ _ us hl=>us2 (fun _ _=>rfl) us hl⟩
 have F10:=fun_mk (st:=top 16) l10 c10 k10
 have D10:Dn K mg (cfOf Gd) gns d__law_cells (top 16) _ _:=⟨F10,PySem.W.mg_of X G a10,sc__law_cells,.inl ck__law_cells,F10.binds (ps:=d__law_cells.ps) fun _ _ _ _ _ _ us hl=>us2 (fun _ _=>rfl) us hl⟩
 have F11:=fun_mk (st:=top 17) l11 c11 k11
 have D11:Dn K mg (cfOf Gd) gns d__law_letters (top 17) _ _:=⟨F11,PySem.W.mg_of X G a11,sc__law_letters,.inl ck__law_letters,F11.binds (ps:=d__law_letters.ps) fun _ _ _ _ _ _ us hl=>us3 (fun _ _ _=>rfl) us hl⟩
 have F12:=fun_mk (st:=top 18) l12 c12 k12
 have D12:Dn K mg (cfOf Gd) gns d__law_family (top 18) _ _:=⟨F12,PySem.W.mg_of X G a12,sc__law_family,.inl ck__law_family,F12.binds (ps:=d__law_family.ps) fun _ _ _ _ _ _ us hl=>us2 (fun _ _=>rfl) us hl⟩
 have F13:=fun_mk (st:=top 19) l13 c13 k13
 have D13:Dn K mg (cfOf Gd) gns d__law_wide (top 19) _ _:=⟨F13,PySem.W.mg_of X G a13,sc__law_wide,.inl ck__law_wide,F13.binds (ps:=d__law_wide.ps) fun _ _ _ _ _ _ us hl=>us2 (fun _ _=>rfl) us hl⟩
 have F14:=fun_mk (st:=top 20) l14 c14 k14
 have D14:Dn K mg (cfOf Gd) gns d__law_words (top 20) _ _:=⟨F14,PySem.W.mg_of X G a14,sc__law_words,.inl ck__law_words,F14.binds (ps:=d__law_words.ps) fun _ _ _ _ _ _ us hl=>us1 (fun _=>rfl) us hl⟩
 have F15:=fun_mk (st:=top 21) l15 c15 k15
 have D15:Dn K mg (cfOf Gd) gns d__law_names (top 21) _ _:=⟨F15,PySem.W.mg_of X G a15,sc__law_names,.inl ck__law_names,F15.binds (ps:=d__law_names.ps) fun _ _ _ _ _ _ us hl=>us1 (fun _=>rfl) us hl⟩
 have F16:=fun_mk (st:=top 22) l16 c16 k16
 have D16:Dn K mg (cfOf Gd) gns d__law_leaf (top 22) _ _:=⟨F16,PySem.W.mg_of X G a16,sc__law_leaf,.inl ck__law_leaf,F16.binds (ps:=d__law_leaf.ps) fun _ _ _ _ _ _ us hl=>us3 (fun _ _ _=>rfl) us hl⟩
 have F17:=fun_mk (st:=top 23) l17 c17 k17
 have D17:Dn K mg (cfOf Gd) gns d__law_bound (top 23) _ _:=⟨F17,PySem.W.mg_of X G a17,sc__law_bound,.inl ck__law_bound,F17.binds (ps:=d__law_bound.ps) fun _ _ _ _ _ _ us hl=>us3 (fun _ _ _=>rfl) us hl⟩
 have F18:=fun_mk (st:=top 24) l18 c18 k18
 have D18:Dn K mg (cfOf Gd) gns d__law_other (top 24) _ _:=⟨F18,PySem.W.mg_of X G a18,sc__law_other,.inl ck__law_other,F18.binds (ps:=d__law_other.ps) fun _ _ _ _ _ _ us hl=>us1 (fun _=>rfl) us hl⟩
 have F19:=fun_mk (st:=top 25) l19 c19 k19
 have D19:Dn K mg (cfOf Gd) gns d__law_joined (top 25) _ _:=⟨F19,PySem.W.mg_of X G a19,sc__law_joined,.inl ck__law_joined,F19.binds (ps:=d__law_joined.ps) fun _ _ _ _ _ _ us hl=>us3 (fun _ _ _=>rfl) us hl⟩
 have F20:=fun_mk (st:=top 26) l20 c20 k20
 have D20:Dn K mg (cfOf Gd) gns d__law_marked (top 26) _ _:=⟨F20,PySem.W.mg_of X G a20,sc__law_marked,.inl ck__law_marked,F20.binds (ps:=d__law_marked.ps) fun _ _ _ _ _ _ us hl=>us1 (fun _=>rfl) us hl⟩
 have F21:=fun_mk (st:=top 27) l21 c21 k21
 have D21:Dn K mg (cfOf Gd) gns d__law_built (top 27) _ _:=⟨F21,PySem.W.mg_of X G a21,sc__law_built,.inl ck__law_built,F21.binds (ps:=d__law_built.ps) fun _ _ _ _ _ _ us hl=>us3 (fun _ _ _=>rfl) us hl⟩
 have F22:=fun_mk (st:=top 28) l22 c22 k22
 have D22:Dn K mg (cfOf Gd) gns d__law_told (top 28) _ _:=⟨F22,PySem.W.mg_of X G a22,sc__law_told,.inl ck__law_told,F22.binds (ps:=d__law_told.ps) fun _ _ _ _ _ _ us hl=>us2 (fun _ _=>rfl) us hl⟩
 have F23:=fun_mk (st:=top 29) l23 c23 k23
 have D23:Dn K mg (cfOf Gd) gns d_law (top 29) _ _:=⟨F23,PySem.W.mg_of X G a23,sc_law,.inl ck_law,F23.binds (ps:=d_law.ps) fun _ _ _ _ _ _ us hl=>us1 (fun _=>rfl) us hl⟩
 refine ⟨top 29,PySem.W.fnOf "law" "law" (defArgs (top 29)) (defBody (top 29)) (defScope (top 29)) .none kV23 dc23 pm23 an23 cd23 ct23,fun s v=>.of_eq rfl,⟨?_,?_,by decide +kernel,?_,?_,?_,?_⟩,D23,?_⟩
 · exact ⟨⟨_,_,_,D0⟩,⟨_,_,_,D1⟩,⟨_,_,_,D2⟩,⟨_,_,_,D3⟩,⟨_,_,_,D4⟩,⟨_,_,_,D5⟩,⟨_,_,_,D6⟩,⟨_,_,_,D7⟩,⟨_,_,_,D8⟩,⟨_,_,_,D9⟩,⟨_,_,_,D10⟩,⟨_,_,_,D11⟩,⟨_,_,_,D12⟩,⟨_,_,_,D13⟩,⟨_,_,_,D14⟩,⟨_,_,_,D15⟩,⟨_,_,_,D16⟩,⟨_,_,_,D17⟩,⟨_,_,_,D18⟩,⟨_,_,_,D19⟩,⟨_,_,_,D20⟩,⟨_,_,_,D21⟩,⟨_,_,_,D22⟩,⟨_,_,_,D23⟩,trivial⟩
 · intro i fd h
   cases i with
   | zero=>exact h
   | succ i =>
   cases i with
   | zero=>exact h
   | succ i =>
   cases i with
   | zero=>exact h
   | succ i =>
   cases i with
   | zero=>exact h
   | succ i =>
   cases i with
   | zero=>exact h
   | succ i =>
   cases i with
   | zero=>exact h
   | succ i =>
   cases i with
   | zero=>exact h
   | succ i =>
   cases i with
   | zero=>exact h
   | succ i =>
   cases i with
   | zero=>exact h
   | succ i =>
   cases i with
   | zero=>exact h
   | succ i =>
   cases i with
   | zero=>exact h
   | succ i =>
   cases i with
   | zero=>exact h
   | succ i =>
   cases i with
   | zero=>exact h
   | succ i =>
   cases i with
   | zero=>exact h
   | succ i =>
   cases i with
   | zero=>exact h
   | succ i =>
   cases i with
   | zero=>exact h
   | succ i =>
   cases i with
   | zero=>exact h
   | succ i =>
   cases i with
   | zero=>exact h
   | succ i =>
   cases i with
   | zero=>exact h
   | succ i =>
   cases i with
   | zero=>exact h
   | succ i =>
   cases i with
   | zero=>exact h
   | succ i =>
   cases i with
   | zero=>exact h
   | succ i =>
   cases i with
   | zero=>exact h
   | succ i =>
   cases i with
   | zero=>exact h
   | succ i =>
   cases h
 · intro k L h
   have h:List.lookup k [(24,L0)] = some L:=h
   rw [List.lookup_cons] at h
   split at h
   · rename_i z
     cases h
     obtain rfl:k = 24:=by simpa using z
     exact ln_0
   rename_i z
   cases h
 · intro x hx
   have hx:x∈(["len","min","max","int","str","tuple","list","sum","isinstance","bool","range","sorted","set","zip","any"]:List Str):=hx
   simp only [List.mem_cons,List.not_mem_nil,or_false] at hx
   rcases hx with rfl | rfl | rfl | rfl | rfl | rfl | rfl | rfl | rfl | rfl | rfl | rfl | rfl | rfl | rfl
   · exact PySem.W.mg_none_of X G z0
   · exact PySem.W.mg_none_of X G z1
   · exact PySem.W.mg_none_of X G z2
   · exact PySem.W.mg_none_of X G z3
   · exact PySem.W.mg_none_of X G z4
   · exact PySem.W.mg_none_of X G z5
   · exact PySem.W.mg_none_of X G z6
   · exact PySem.W.mg_none_of X G z7
   · exact PySem.W.mg_none_of X G z8
   · exact PySem.W.mg_none_of X G z9
   · exact PySem.W.mg_none_of X G z10
   · exact PySem.W.mg_none_of X G z11
   · exact PySem.W.mg_none_of X G z12
   · exact PySem.W.mg_none_of X G z13
   · exact PySem.W.mg_none_of X G z14
 · intro g x d h1 h2
   cases g with
   | zero =>
     cases h1;cases h2
     refine ⟨.ref g0,.ref g0,PySem.W.mg_of X G ga0,rfl,fun H F=>?_⟩
     unfold Rel
     refine ⟨g0,[.str "yes",.str "no",.str "word"],rfl,.inr ⟨_,_,gn0,gb0,rfl,rfl,by show 3≤sizeLine;decide,.cons ⟨_,rfl⟩ (.cons ⟨_,rfl⟩ (.cons ⟨_,rfl⟩ (.nil)))⟩,?_⟩
     exact RelL.cons (rel_str _) (RelL.cons (rel_str _) (RelL.cons (rel_str _) (RelL.nil)))
   | succ g =>
   cases g with
   | zero =>
     cases h1;cases h2
     refine ⟨.ref g1,.ref g1,PySem.W.mg_of X G ga1,rfl,fun H F=>?_⟩
     unfold Rel
     refine ⟨g1,[.str "all",.str "some"],rfl,.inr ⟨_,_,gn1,gb1,rfl,rfl,by show 2≤sizeLine;decide,.cons ⟨_,rfl⟩ (.cons ⟨_,rfl⟩ (.nil))⟩,?_⟩
     exact RelL.cons (rel_str _) (RelL.cons (rel_str _) (RelL.nil))
   | succ g =>
   cases g with
   | zero =>
     cases h1;cases h2
     refine ⟨.ref g2,.ref g2,PySem.W.mg_of X G ga2,rfl,fun H F=>?_⟩
     unfold Rel
     refine ⟨g2,[.ref g2x0,.ref g2x1,.ref g2x2],rfl,.inr ⟨_,_,gn2,gb2,rfl,rfl,by show 3≤sizeLine;decide,.cons rfl (.cons rfl (.cons rfl (.nil)))⟩,?_⟩
     have r0:Rel K H F (.tup [.str "right",.str "and"]) (.ref g2x0):=by
      unfold Rel
      refine ⟨g2x0,[.str "right",.str "and"],rfl,.inr ⟨_,_,gn2x0,gc2x0,rfl,rfl,by show 2≤sizeLine;decide,.cons ⟨_,rfl⟩ (.cons ⟨_,rfl⟩ (.nil))⟩,?_⟩
      exact RelL.cons (rel_str _) (RelL.cons (rel_str _) (RelL.nil))
     have r1:Rel K H F (.tup [.str "left",.str "or"]) (.ref g2x1):=by
      unfold Rel
      refine ⟨g2x1,[.str "left",.str "or"],rfl,.inr ⟨_,_,gn2x1,gc2x1,rfl,rfl,by show 2≤sizeLine;decide,.cons ⟨_,rfl⟩ (.cons ⟨_,rfl⟩ (.nil))⟩,?_⟩
      exact RelL.cons (rel_str _) (RelL.cons (rel_str _) (RelL.nil))
     have r2:Rel K H F (.tup [.str "left",.str "if"]) (.ref g2x2):=by
      unfold Rel
      refine ⟨g2x2,[.str "left",.str "if"],rfl,.inr ⟨_,_,gn2x2,gc2x2,rfl,rfl,by show 2≤sizeLine;decide,.cons ⟨_,rfl⟩ (.cons ⟨_,rfl⟩ (.nil))⟩,?_⟩
      exact RelL.cons (rel_str _) (RelL.cons (rel_str _) (RelL.nil))
     exact RelL.cons r0 (RelL.cons r1 (RelL.cons r2 (RelL.nil)))
   | succ g =>
   cases h1
 · intro g x h1
   cases g with
   | zero=>exact ⟨_,rfl⟩
   | succ g =>
   cases g with
   | zero=>exact ⟨_,rfl⟩
   | succ g =>
   cases g with
   | zero=>exact ⟨_,rfl⟩
   | succ g =>
   cases h1
 · intro t ht
   have ht:t∈[(37,("put_in.<locals>.<lambda>":Str))]:=ht
   simp only [List.mem_cons,List.not_mem_nil,or_false] at ht
   rcases ht with rfl
   · exact ⟨t3,_,h3⟩
end P1
end
section
theorem PySem.W.Fast.te14000536172376486373:True:=trivial
open PySem PySem.W PyProof.Rows
set_option maxRecDepth 100000 in
set_option maxHeartbeats 0 in
theorem PySem.Challenge.cw_cutless_k08_marks_holds : PySem.Challenge.rw_cutless_k08_marks.Holds := by
 w_on
 refine PySem.W.holds_law (by decide +kernel) fun said=>?_
 k_head;(case hw=>w_witness2)
 k_fill
 refine PP.walk_run (l:=PySem.Challenge.rw_cutless_k08_marks) (G:=P1.Gs) (Gd:=P1.Gd) (gl:=P1.gls) (gn:=P1.gns) (i:=23) (fd:=P1.d_law) (x:="_law_script") P1.main rfl rfl rfl rfl (fun w h Y=>⟨PySem.W.km_in_of Y,fun t ht=>PySem.W.km_tabs_of Y t.1 (by rcases P1.mem_ts ht with rfl<;>decide)⟩) ?F
 case F =>
  intro w mg fa h KX G hmg
  refine' P1.all_mk (l:=PySem.Challenge.rw_cutless_k08_marks) (w:=w) KX G hmg ?a0 ?l0 ?c0 ?k0 ?a1 ?l1 ?c1 ?k1 ?a2 ?l2 ?c2 ?k2 ?a3 ?l3 ?c3 ?k3 ?h3 ?t3 ?a4 ?l4 ?c4 ?k4 ?a5 ?l5 ?c5 ?k5 ?a6 ?l6 ?c6 ?k6 ?a7 ?l7 ?c7 ?k7 ?a8 ?l8 ?c8 ?k8 ?a9 ?l9 ?c9 ?k9 ?a10 ?l10 ?c10 ?k10 ?a11 ?l11 ?c11 ?k11 ?a12 ?l12 ?c12 ?k12 ?a13 ?l13 ?c13 ?k13 ?a14 ?l14 ?c14 ?k14 ?a15 ?l15 ?c15 ?k15 ?a16 ?l16 ?c16 ?k16 ?a17 ?l17 ?c17 ?k17 ?a18 ?l18 ?c18 ?k18 ?a19 ?l19 ?c19 ?k19 ?a20 ?l20 ?c20 ?k20 ?a21 ?l21 ?c21 ?k21 ?a22 ?l22 ?c22 ?k22 ?a23 ?l23 ?c23 ?k23 ?z0 ?z1 ?z2 ?z3 ?z4 ?z5 ?z6 ?z7 ?z8 ?z9 ?z10 ?z11 ?z12 ?z13 ?z14 ?ga0 ?gb0 ?ga1 ?gb1 ?ga2 ?gb2 ?gc2x0 ?gc2x1 ?gc2x2
  (case a0=>k_is)
  (case l0=>k_is)
  (case c0=>k_is)
  (case k0=>k_is)
  (case a1=>k_is)
  (case l1=>k_is)
  (case c1=>k_is)
  (case k1=>k_is)
  (case a2=>k_is)
  (case l2=>k_is)
  (case c2=>k_is)
  (case k2=>k_is)
  (case a3=>k_is)
  (case l3=>k_is)
  (case c3=>k_is)
  (case k3=>k_is)
  (case h3=>kernel_rfl)
  (case t3=>kernel_rfl)
  (case a4=>k_is)
  (case l4=>k_is)
  (case c4=>k_is)
  (case k4=>k_is)
  (case a5=>k_is)
  (case l5=>k_is)
  (case c5=>k_is)
  (case k5=>k_is)
  (case a6=>k_is)
  (case l6=>k_is)
  (case c6=>k_is)
  (case k6=>k_is)
  (case a7=>k_is)
  (case l7=>k_is)
  (case c7=>k_is)
  (case k7=>k_is)
  (case a8=>k_is)
  (case l8=>k_is)
  (case c8=>k_is)
  (case k8=>k_is)
  (case a9=>k_is)
  (case l9=>k_is)
  (case c9=>k_is)
  (case k9=>k_is)
  (case a10=>k_is)
  (case l10=>k_is)
  (case c10=>k_is)
  (case k10=>k_is)
  (case a11=>k_is)
  (case l11=>k_is)
  (case c11=>k_is)
  (case k11=>k_is)
  (case a12=>k_is)
  (case l12=>k_is)
  (case c12=>k_is)
  (case k12=>k_is)
  (case a13=>k_is)
  (case l13=>k_is)
  (case c13=>k_is)
  (case k13=>k_is)
  (case a14=>k_is)
  (case l14=>k_is)
  (case c14=>k_is)
  (case k14=>k_is)
  (case a15=>k_is)
  (case l15=>k_is)
  (case c15=>k_is)
  (case k15=>k_is)
  (case a16=>k_is)
  (case l16=>k_is)
  (case c16=>k_is)
  (case k16=>k_is)
  (case a17=>k_is)
  (case l17=>k_is)
  (case c17=>k_is)
  (case k17=>k_is)
  (case a18=>k_is)
  (case l18=>k_is)
  (case c18=>k_is)
  (case k18=>k_is)
  (case a19=>k_is)
  (case l19=>k_is)
  (case c19=>k_is)
  (case k19=>k_is)
  (case a20=>k_is)
  (case l20=>k_is)
  (case c20=>k_is)
  (case k20=>k_is)
  (case a21=>k_is)
  (case l21=>k_is)
  (case c21=>k_is)
  (case k21=>k_is)
  (case a22=>k_is)
  (case l22=>k_is)
  (case c22=>k_is)
  (case k22=>k_is)
  (case a23=>k_is)
  (case l23=>k_is)
  (case c23=>k_is)
  (case k23=>k_is)
  (case z0=>k_is)
  (case z1=>k_is)
  (case z2=>k_is)
  (case z3=>k_is)
  (case z4=>k_is)
  (case z5=>k_is)
  (case z6=>k_is)
  (case z7=>k_is)
  (case z8=>k_is)
  (case z9=>k_is)
  (case z10=>k_is)
  (case z11=>k_is)
  (case z12=>k_is)
  (case z13=>k_is)
  (case z14=>k_is)
  (case ga0=>k_is)
  (case gb0=>k_is)
  (case ga1=>k_is)
  (case gb1=>k_is)
  (case ga2=>k_is)
  (case gb2=>k_is)
  (case gc2x0=>k_is)
  (case gc2x1=>k_is)
  (case gc2x2=>k_is)
end
