import PyProof.Rows.All
import Wide.All
import OpenK.AllK
import Wide.FinOn
import Lean
import PyProof.EqAt
import PyProof.EqKinds
import PyProof.TupleCall
import KE.KSortAsk
import KE.KIntText
import KE.KMinBuiltin
import PySem.Challenge.RW_cutless_k15_changed
set_option Elab.async false
set_option linter.all false
set_option maxRecDepth 100000
set_option maxHeartbeats 4000000
section
-- CHANGE: your row's module here, as the last of these rows
namespace L2
open PySem PySem.Spec PyProof.Rows
abbrev Key := Sum Int Str
noncomputable def keyIs : Key → Value → Bool
  | .inl k, v => Value.isInt k v
  | .inr x, v => Value.isStrOf x v
noncomputable def keyH (w : World) : Key → Int
  | .inl k => hashInt k
  | .inr x => hashStr w x
theorem keyIs_shape : ∀ {k : Key} {v : Value}, keyIs k v = true → (∃ i t, k = Sum.inl i ∧ v = Value.int i t) ∨ (∃ x t, k = Sum.inr x ∧ v = Value.str x t)
  | .inl i, v, h => by
    obtain ⟨t, e⟩ := Value.isInt_shape (k := i) (v := v) h
    exact .inl ⟨i, t, rfl, e⟩
  | .inr x, v, h => by
    obtain ⟨t, e⟩ := Value.isStrOf_shape (x := x) (v := v) h
    exact .inr ⟨x, t, rfl, e⟩
theorem key_ll (a b : Int) : decide ((Sum.inl a : Key) = Sum.inl b) = (a == b) := by
  by_cases e : a = b
  · subst e; simp
  · have h : ¬ (Sum.inl a : Key) = Sum.inl b := fun q => e (Sum.inl.inj q)
    rw [decide_eq_false h]
    exact (beq_eq_false_iff_ne.mpr e).symm
theorem key_rr (a b : Str) : decide ((Sum.inr a : Key) = Sum.inr b) = decide (a = b) := by
  by_cases e : a = b
  · subst e; simp
  · have h : ¬ (Sum.inr a : Key) = Sum.inr b := fun q => e (Sum.inr.inj q)
    rw [decide_eq_false h, decide_eq_false e]
theorem key_lr (a : Int) (b : Str) : decide ((Sum.inl a : Key) = Sum.inr b) = false := decide_eq_false (fun q => nomatch q)
theorem key_rl (a : Str) (b : Int) : decide ((Sum.inr a : Key) = Sum.inl b) = false := decide_eq_false (fun q => nomatch q)
noncomputable def mixKind (prog : Program) (w : World) : PySem.KeyKind prog w Key where
  is := keyIs
  hash := keyH w
  inj := fun v a b ha hb => by
    rcases keyIs_shape ha with ⟨i, t, rfl, rfl⟩ | ⟨x, t, rfl, rfl⟩
    · rcases keyIs_shape hb with ⟨j, u, rfl, e⟩ | ⟨y, u, rfl, e⟩
      · injection e with e1 _; rw [e1]
      · exact nomatch e
    · rcases keyIs_shape hb with ⟨j, u, rfl, e⟩ | ⟨y, u, rfl, e⟩
      · exact nomatch e
      · injection e with e1 _; rw [e1]
  byValue := fun k v h => by
    rcases keyIs_shape h with ⟨i, t, rfl, rfl⟩ | ⟨x, t, rfl, rfl⟩ <;> rfl
  pyHash := fun hv h => by
    rcases keyIs_shape hv with ⟨i, t, rfl, rfl⟩ | ⟨x, t, rfl, rfl⟩
    · exact wpAny_pyHash_int h
    · exact wpAny_pyHash_str h
  eqBool := fun hu hv h => by
    rcases keyIs_shape hu with ⟨i, t, rfl, rfl⟩ | ⟨x, t, rfl, rfl⟩
    · rcases keyIs_shape hv with ⟨j, u, rfl, rfl⟩ | ⟨y, u, rfl, rfl⟩
      · rw [key_ll] at h; exact wpAny_eqBool_int h
      · rw [key_lr] at h; exact SeqAt.EqAt.int_str i t y u _ _ _ _ h
    · rcases keyIs_shape hv with ⟨j, u, rfl, rfl⟩ | ⟨y, u, rfl, rfl⟩
      · rw [key_rl] at h; exact SeqAt.EqAt.str_int x t j u _ _ _ _ h
      · rw [key_rr] at h; exact wpAny_eqBool_str h
  «strs» := fun k x t v h => by
    rcases keyIs_shape h with ⟨i, u, rfl, e⟩ | ⟨y, u, rfl, e⟩
    · exact nomatch e
    · injection e with e1 _
      subst e1
      cases v <;> rfl
end L2
namespace L2
open PySem PySem.Spec PyProof.Rows
inductive V where
  | non | bl (b : Bool) | int (i : Int) | str (x : Str) | byt (b : Array UInt8) | flt (b : UInt64) | ref (a : Addr) | ty (n : String)
  deriving DecidableEq
noncomputable def RelV : V → Value → Prop
  | .non, u => u = Value.none
  | .bl b, u => u = Value.bool b
  | .int i, u => ∃ t, u = Value.int i t
  | .str x, u => ∃ t, u = Value.str x t
  | .byt b, u => ∃ t, u = Value.bytes b t
  | .flt b, u => ∃ t, u = Value.float b t
  | .ref a, u => u = Value.ref a
  | .ty n, u => u = Value.type n
abbrev Vals : List V → List Value → Prop := Paired RelV
theorem Vals.length {xs : List V} {us : List Value} (r : Vals xs us) : xs.length = us.length := Paired.length r
theorem Vals.get : ∀ {xs : List V} {us : List Value} {i : Nat} {x : V}, Vals xs us → xs[i]? = some x → ∃ u, us[i]? = some u ∧ RelV x u
  | _, _, _, _, .nil, e => by simp at e
  | _, _, 0, _, .cons r _, e => by simp at e; subst e; exact ⟨_, rfl, r⟩
  | _, _, i + 1, x, .cons _ t, e => by
    obtain ⟨u, h1, h2⟩ := Vals.get (i := i) (x := x) t (by simpa using e)
    exact ⟨u, by simpa using h1, h2⟩
theorem Vals.set {x : V} {u : Value} (r : RelV x u) : ∀ {xs : List V} {us : List Value} (i : Nat), Vals xs us → Vals (xs.set i x) (us.set i u)
  | _, _, _, .nil => .nil
  | _, _, 0, .cons _ t => .cons r t
  | _, _, i + 1, .cons q t => .cons q (Vals.set r i t)
theorem Vals.append : ∀ {xs ys : List V} {us ws : List Value}, Vals xs us → Vals ys ws → Vals (xs ++ ys) (us ++ ws)
  | _, _, _, _, .nil, s => s
  | _, _, _, _, .cons r t, s => .cons r (Vals.append t s)
theorem Vals.take : ∀ {xs : List V} {us : List Value} (n : Nat), Vals xs us → Vals (xs.take n) (us.take n)
  | _, _, 0, _ => .nil
  | _, _, _ + 1, .nil => .nil
  | _, _, n + 1, .cons r t => .cons r (Vals.take n t)
theorem Vals.drop : ∀ {xs : List V} {us : List Value} (n : Nat), Vals xs us → Vals (xs.drop n) (us.drop n)
  | _, _, 0, r => r
  | _, _, _ + 1, .nil => .nil
  | _, _, n + 1, .cons _ t => Vals.drop n t
theorem Vals.none_of : ∀ {xs : List V} {us : List Value} {i : Nat}, Vals xs us → xs[i]? = none → us[i]? = none := fun {xs us i} r e => by
  have h1 := r.length
  have h2 : xs.length ≤ i := List.getElem?_eq_none_iff.mp e
  exact List.getElem?_eq_none_iff.mpr (by omega)
noncomputable def RelO : Option V → Option Value → Prop
  | some v, some u => RelV v u
  | none, none => True
  | _, _ => False
noncomputable def KV {κ : Type} : List (κ × V) → List (κ × Value) → Prop := Paired fun (p : κ × V) (q : κ × Value) => p.1 = q.1 ∧ RelV p.2 q.2
noncomputable def kV : Key → V
  | .inl i => .int i
  | .inr x => .str x
inductive HO where
    | lst (xs : List V)
    | tup (xs : List V)
    | dK (kvs : List (Key × V)) | dT (kvs : List (List Key × V))
    | set (S : Int → Bool) (n : Nat)
    | ins (C dx : Addr) (fs : List (Str × V))
    | own (x : Addr)
    | xd (fs : List (Str × V))
    | met (f x : Addr)
    | rng (lo hi : Int)
    | frz (o : Obj) (u : HO)
    | tbl (ps : Array Value)
    | ext (φ : Heap → Prop)
abbrev Hp := Addr → Option HO
noncomputable def upd (H : Hp) (a : Addr) (o : HO) : Hp := fun b => if b = a then some o else H b
theorem upd_same {H : Hp} {a : Addr} {o : HO} : upd H a o a = some o := by unfold upd; rw [if_pos rfl]
theorem upd_ne {H : Hp} {a b : Addr} {o : HO} (h : b ≠ a) : upd H a o b = H b := by unfold upd; rw [if_neg h]
theorem ne_of_none {H : Hp} {a b : Addr} {o : HO} (h : H a = some o) (h' : H b = none) : a ≠ b := by
  intro e; subst e; rw [h] at h'; cases h'
section
variable (P : Program) (w : World)
noncomputable def ObjOk (H : Hp) (h : Heap) (a : Addr) : HO → Prop
  | .lst xs => xs.length ≤ sizeLine ∧ ∃ (its : List Value) (n : Nat), Vals xs its ∧ h.get? a = some { cls := .type "list", data := .seq its.toArray n }
  | .tup xs => xs.length ≤ sizeLine ∧ ∃ its : List Value, Vals xs its ∧ IsTup h a its.toArray
  | .dK kvs => kvs.length ≤ sizeLine ∧ (a == sysModules) = false ∧ ∃ vs, KV kvs vs ∧ h.DictOf (mixKind P w) a vs
  | .dT kvs => kvs.length ≤ sizeLine ∧ (a == sysModules) = false ∧ ∃ xs : List (List Key × Addr × Value),
      Paired (fun (p : List Key × V) (q : List Key × Addr × Value) => p.1 = q.1 ∧ H q.2.1 = some (.tup (p.1.map kV)) ∧ RelV p.2 q.2.2) kvs xs ∧
      ∃ o es ep, h.get? a = some o ∧ o.ExactDict ∧ o.data = .dict es ep ∧ es.toList = xs.map (entryOfKey (tupleKind (mixKind P w))) ∧ (xs.map (·.1)).Nodup
  | .set S n => h.SetOf (intKind P w) a S n
  | .ins C dx fs => H dx = some (.own a) ∧ fs.length ≤ 1000 ∧ dx ≠ a ∧ h.get? a = some (PySem.W.instObj C dx) ∧
      ∃ mA, h.Ns1 dx mA ∧ (∀ f, RelO (fs.lookup f) (mA f)) ∧ PySem.Within mA (fs.map (·.1))
  | .own _ => ∃ o, h.get? a = some o
  | .xd fs => ∃ mA, h.Ns1 a mA ∧ ∀ f, RelO (fs.lookup f) (mA f)
  | .rng lo hi => ∃ t u v, h.get? a = some { cls := .type "range", data := .fields #[.int lo t, .int hi u, .int 1 v] }
  | .frz o u => h.get? a = some o ∧ ObjOk H h a u
  | .tbl ps => h.get? a = some { cls := .none, data := .fields ps }
  | .met f x => h.get? a = some (PySem.W.methodObj (.ref f) (.ref x))
  | .ext φ => φ h ∧ (∃ o, h.get? a = some o) ∧ ∀ h1 h2 : Heap, φ h1 → (∀ o, h1.get? a = some o → h2.get? a = some o) → φ h2
noncomputable def HOk (H : Hp) (h : Heap) : Prop := ∀ a o, H a = some o → ObjOk P w H h a o
end
section
variable {P : Program} {w : World} {H H' : Hp} {h h' : Heap} {a : Addr} {o : HO}
theorem ObjOk.lt (x : ObjOk P w H h a o) : a < h.objs.size := by
  cases o with
  | lst xs => obtain ⟨_, _, _, _, e⟩ := x; exact Heap.lt_size e
  | tup xs => obtain ⟨_, _, _, p⟩ := x; exact p.lt
  | dK kvs => obtain ⟨_, _, _, _, o, _, _, e, _⟩ := x; exact Heap.lt_size e
  | dT kvs => obtain ⟨_, _, _, _, o, _, _, e, _⟩ := x; exact Heap.lt_size e
  | set S n => obtain ⟨o, _, _, _, e, _⟩ := x; exact Heap.lt_size e
  | ins C dx fs => obtain ⟨_, _, _, e, _⟩ := x; exact Heap.lt_size e
  | own y => obtain ⟨_, e⟩ := x; exact Heap.lt_size e
  | xd fs => obtain ⟨_, ⟨_, _, _, e, _⟩, _⟩ := x; exact Heap.lt_size e
  | rng lo hi => obtain ⟨_, _, _, e⟩ := x; exact Heap.lt_size e
  | frz ob u => obtain ⟨e, _⟩ := x; exact Heap.lt_size e
  | tbl ps => exact Heap.lt_size (show h.get? a = some _ from x)
  | met f y => exact Heap.lt_size (show h.get? a = some _ from x)
  | ext φ => obtain ⟨_, ⟨_, e⟩, _⟩ := x; exact Heap.lt_size e
theorem Paired.mapP {α β : Type} {F G : α → β → Prop} : ∀ {l₁ : List α} {l₂ : List β}, Paired F l₁ l₂ → (∀ a b, F a b → G a b) → Paired G l₁ l₂
  | _, _, .nil, _ => .nil
  | _, _, .cons r t, f => .cons (f _ _ r) (Paired.mapP t f)
theorem ObjOk.stay (x : ObjOk P w H h a o) (k : ∀ b u, (b = a ∨ H b = some (.own a)) → h.get? b = some u → h'.get? b = some u)
    (ho : ∀ b, H b = some (.own a) → H' b = some (.own a)) (ht : ∀ b xs, H b = some (.tup xs) → H' b = some (.tup xs)) : ObjOk P w H' h' a o := by
  induction o with
  | lst xs => obtain ⟨z, its, n, r, e⟩ := x; exact ⟨z, its, n, r, k _ _ (.inl rfl) e⟩
  | tup xs => obtain ⟨z, its, r, ob, e, c⟩ := x; exact ⟨z, its, r, ob, k _ _ (.inl rfl) e, c⟩
  | dK kvs => obtain ⟨z, y, vs, r, ob, es, ep, e, c⟩ := x; exact ⟨z, y, vs, r, ob, es, ep, k _ _ (.inl rfl) e, c⟩
  | dT kvs =>
    obtain ⟨z, y, xs, r, ob, es, ep, e, c⟩ := x
    exact ⟨z, y, xs, Paired.mapP r fun p q z => ⟨z.1, ht _ _ z.2.1, z.2.2⟩, ob, es, ep, k _ _ (.inl rfl) e, c⟩
  | set S n => obtain ⟨ob, es, ep, t, e, c⟩ := x; exact ⟨ob, es, ep, t, k _ _ (.inl rfl) e, c⟩
  | ins C dx fs =>
    obtain ⟨d, z, ne, e, mA, ⟨od, es, ep, e2, c⟩, r⟩ := x
    exact ⟨ho _ d, z, ne, k _ _ (.inl rfl) e, mA, ⟨od, es, ep, k _ _ (.inr d) e2, c⟩, r⟩
  | own y => obtain ⟨ob, e⟩ := x; exact ⟨ob, k _ _ (.inl rfl) e⟩
  | xd fs => obtain ⟨mA, ⟨od, es, ep, e, c⟩, r⟩ := x; exact ⟨mA, ⟨od, es, ep, k _ _ (.inl rfl) e, c⟩, r⟩
  | rng lo hi => obtain ⟨t, u, v, e⟩ := x; exact ⟨t, u, v, k _ _ (.inl rfl) e⟩
  | frz ob u ih => obtain ⟨e, q⟩ := x; exact ⟨k _ _ (.inl rfl) e, ih q⟩
  | tbl ps =>
    have e : h.get? a = some { cls := .none, data := .fields ps } := x
    show h'.get? a = some { cls := .none, data := .fields ps }
    exact k a _ (.inl rfl) e
  | met f y =>
    have e : h.get? a = some (PySem.W.methodObj (.ref f) (.ref y)) := x
    show h'.get? a = some (PySem.W.methodObj (.ref f) (.ref y))
    exact k a _ (.inl rfl) e
  | ext φ => obtain ⟨p, ⟨o, e⟩, st⟩ := x; exact ⟨st _ _ p fun o q => k _ _ (.inl rfl) q, ⟨o, k _ _ (.inl rfl) e⟩, st⟩
theorem HOk.lt (x : HOk P w H h) (e : H a = some o) : a < h.objs.size := (x a o e).lt
theorem HOk.fresh (x : HOk P w H h) (e : h.objs.size ≤ a) : H a = none := by
  cases q : H a with
  | none => rfl
  | some u => exact absurd (Nat.lt_of_lt_of_le (x.lt q) e) (Nat.lt_irrefl _)
theorem HOk.kept (x : HOk P w H h) (k : ∀ b u, h.get? b = some u → h'.get? b = some u) : HOk P w H h' := fun a o e =>
  (x a o e).stay (fun b u _ q => k b u q) (fun _ q => q) fun _ _ q => q
theorem HOk.laid (x : HOk P w H h) (k : ∀ b u, h.get? b = some u → h'.get? b = some u) (hp : h.objs.size ≤ a) (new : ObjOk P w (upd H a o) h' a o) : HOk P w (upd H a o) h' := fun b u e => by
  have hn := x.fresh hp
  by_cases hb : b = a
  · subst hb; rw [upd_same] at e; cases e; exact new
  · rw [upd_ne hb] at e
    exact (x b u e).stay (fun c v _ q => k c v q) (fun c q => by rw [upd_ne (ne_of_none q hn)]; exact q) fun c xs q => by rw [upd_ne (ne_of_none q hn)]; exact q
end
noncomputable def Rd (H : Hp) (a : Addr) (u : HO) : Prop := H a = some u ∨ ∃ o, H a = some (.frz o u)
theorem Rd.of {H : Hp} {a : Addr} {u : HO} (h : H a = some u) : Rd H a u := .inl h
theorem Rd.ok {P : Program} {w : World} {H : Hp} {h : Heap} {a : Addr} {u : HO} (r : Rd H a u) (x : HOk P w H h) : ObjOk P w H h a u := by
  rcases r with r | ⟨o, r⟩
  · exact x a u r
  · obtain ⟨_, q⟩ := x a _ r
    exact q
noncomputable def Mut : Option HO → Prop
  | some (.lst _) => True
  | some (.dK _) => True
  | some (.dT _) => True
  | some (.set _ _) => True
  | some (.ins _ _ _) => True
  | some (.ext _) => True
  | _ => False
section
variable {P : Program} {w : World} {H : Hp} {h h' : Heap} {x e : Addr} {o' : HO}
theorem HOk.write (ok : HOk P w H h) (mu : Mut (H x)) (he : e = x ∨ H e = some (.own x)) (k : ∀ b u, b ≠ e → h.get? b = some u → h'.get? b = some u) (heo : ∃ u, h'.get? e = some u)
    (new : ObjOk P w (upd H x o') h' x o') : HOk P w (upd H x o') h' := fun b u q => by
  have nown : ∀ c y, H c = some (.own y) → c ≠ x := fun c y r z => by subst z; rw [r] at mu; exact mu
  have ntup : ∀ c xs, H c = some (.tup xs) → c ≠ x := fun c xs r z => by subst z; rw [r] at mu; exact mu
  by_cases hb : b = x
  · subst hb; rw [upd_same] at q; cases q; exact new
  · rw [upd_ne hb] at q
    by_cases hbe : b = e
    · have q' : H b = some (.own x) := by
        rcases he with z | z
        · exact absurd (hbe.trans z) hb
        · rw [hbe]; exact z
      rw [q] at q'; cases q'
      obtain ⟨v, hv⟩ := heo
      exact ⟨v, by rw [hbe]; exact hv⟩
    · refine (ok b u q).stay (fun c v hc r => k c v ?_ r) (fun c r => by rw [upd_ne (nown c b r)]; exact r) fun c xs r => by rw [upd_ne (ntup c xs r)]; exact r
      rcases hc with rfl | hc
      · exact hbe
      · rintro rfl
        rcases he with z | z
        · exact nown c b hc z
        · rw [hc] at z; cases z; exact hb rfl
end
structure Un (fs ex : List Addr) (H H' : Hp) (h h' : Heap) : Prop where
  keep : ∀ b o, h.get? b = some o → H b = none → b ∉ fs → b ∉ ex → h'.get? b = some o
  slot : ∀ b o, h.get? b = some o → H b = none → b ∈ fs → b ∉ ex → ∃ sl, h'.get? b = some { o with slots := sl }
  free : ∀ b o, h.get? b = some o → H b = none → b ∉ ex → H' b = none
  there : ∀ b o, h.get? b = some o → b ∉ ex → ∃ o', h'.get? b = some o'
  tups : ∀ b xs, H b = some (.tup xs) → H' b = some (.tup xs)
  frzs : ∀ b o u, H b = some (.frz o u) → H' b = some (.frz o u)
  tbls : ∀ b ps, H b = some (.tbl ps) → ∃ more, H' b = some (.tbl (ps ++ more))
section
variable {fs fs' ex ex' : List Addr} {H H1 H2 : Hp} {h h1 h2 h' : Heap} {a x e : Addr} {o : HO}
theorem Un.any (u : Un fs ex H H1 h h1) {b : Addr} {ob : Obj} (q : h.get? b = some ob) (n : H b = none) (hx : b ∉ ex) : ∃ sl, h1.get? b = some { ob with slots := sl } := by
  by_cases hb : b ∈ fs
  · exact u.slot b ob q n hb hx
  · exact ⟨ob.slots, u.keep b ob q n hb hx⟩
theorem Un.trans (a : Un fs ex H H1 h h1) (b : Un fs ex H1 H2 h1 h2) : Un fs ex H H2 h h2 where
  keep := fun c ob q n hc hx => b.keep c ob (a.keep c ob q n hc hx) (a.free c ob q n hx) hc hx
  slot := fun c ob q n hc hx => by
    obtain ⟨sl, e1⟩ := a.slot c ob q n hc hx
    obtain ⟨sl', e2⟩ := b.slot c _ e1 (a.free c ob q n hx) hc hx
    exact ⟨sl', e2⟩
  free := fun c ob q n hx => by
    obtain ⟨o', e1⟩ := a.there c ob q hx
    exact b.free c o' e1 (a.free c ob q n hx) hx
  there := fun c ob q hx => by
    obtain ⟨o', e1⟩ := a.there c ob q hx
    exact b.there c o' e1 hx
  tups := fun c xs q => b.tups c xs (a.tups c xs q)
  frzs := fun c ob xs q => b.frzs c ob xs (a.frzs c ob xs q)
  tbls := fun c ps q => by
    obtain ⟨m1, e1⟩ := a.tbls c ps q
    obtain ⟨m2, e2⟩ := b.tbls c _ e1
    exact ⟨m1 ++ m2, by rw [e2, Array.append_assoc]⟩
theorem Un.kept (k : ∀ b u, h.get? b = some u → h'.get? b = some u) : Un fs ex H H h h' :=
  ⟨fun b ob q _ _ _ => k b ob q, fun b ob q _ _ _ => ⟨ob.slots, k b ob q⟩, fun _ _ _ n _ => n, fun b ob q _ => ⟨ob, k b ob q⟩, fun _ _ q => q, fun _ _ _ q => q, fun _ ps q => ⟨#[], by rw [q]; simp⟩⟩
theorem Un.refl : Un fs ex H H h h := Un.kept fun _ _ q => q
theorem Un.laid (k : ∀ b u, h.get? b = some u → h'.get? b = some u) (hp : h.objs.size ≤ a) (hn : H a = none) : Un fs ex H (upd H a o) h h' where
  keep := fun b u q _ _ _ => k b u q
  slot := fun b u q _ _ _ => ⟨u.slots, k b u q⟩
  free := fun b u q n _ => by rw [upd_ne (Nat.ne_of_lt (Nat.lt_of_lt_of_le (Heap.lt_size q) hp))]; exact n
  there := fun b u q _ => ⟨u, k b u q⟩
  tups := fun b xs q => by rw [upd_ne (ne_of_none q hn)]; exact q
  frzs := fun b u xs q => by rw [upd_ne (ne_of_none q hn)]; exact q
  tbls := fun b ps q => ⟨#[], by rw [upd_ne (ne_of_none q hn), q]; simp⟩
theorem Un.write (mu : Mut (H x)) (he : e = x ∨ H e = some (.own x)) (k : ∀ b u, b ≠ e → h.get? b = some u → h'.get? b = some u) (heo : ∃ u, h'.get? e = some u) : Un fs ex H (upd H x o) h h' := by
  have hx : ∀ b, H b = none → b ≠ x := fun b n z => by subst z; rw [n] at mu; exact mu
  have hb : ∀ b, H b = none → b ≠ e := fun b n z => by
    subst z
    rcases he with r | r
    · exact hx b n r
    · rw [n] at r; cases r
  have hm : ∀ b u, H b = some u → ¬ Mut (some u) → b ≠ x := fun b u q nm z => by subst z; rw [q] at mu; exact nm mu
  refine ⟨fun b u q n _ _ => k b u (hb b n) q, fun b u q n _ _ => ⟨u.slots, k b u (hb b n) q⟩, fun b u q n _ => by rw [upd_ne (hx b n)]; exact n, fun b u q _ => ?_,
    fun b xs q => by rw [upd_ne (hm b _ q fun z => z)]; exact q, fun b u xs q => by rw [upd_ne (hm b _ q fun z => z)]; exact q, fun b ps q => ⟨#[], by rw [upd_ne (hm b _ q fun z => z), q]; simp⟩⟩
  by_cases hbe : b = e
  · subst hbe; exact heo
  · exact ⟨u, k b u hbe q⟩
theorem Un.mono (u : Un fs ex H H1 h h1) (hs : ∀ b ∈ fs, b ∈ fs') (hx : ∀ b ∈ ex, b ∈ ex') : Un fs' ex' H H1 h h1 :=
  ⟨fun b ob q n hb he => u.keep b ob q n (fun z => hb (hs b z)) fun z => he (hx b z), fun _ _ q n _ he => u.any q n fun z => he (hx _ z), fun b ob q n he => u.free b ob q n fun z => he (hx b z), fun b ob q he => u.there b ob q fun z => he (hx b z), u.tups, u.frzs, u.tbls⟩
end
noncomputable def trk (h : Heap) (H : Hp) : List Addr := (List.range h.objs.size).filter fun a => (H a).isSome
noncomputable def hidT (h : Heap) (H : Hp) : Heap := PySem.W.hideAll h (trk h H)
theorem hidT_size (h : Heap) (H : Hp) : (hidT h H).objs.size = h.objs.size := PySem.W.hideAll_size _ _
theorem hidT_get {h : Heap} {H : Hp} {b : Addr} {o : Obj} (e : h.get? b = some o) (n : H b = none) : (hidT h H).get? b = some o :=
  PySem.W.hideAll_get _ e fun hm => by
    have q : (H b).isSome = true := (List.mem_filter.mp hm).2
    rw [n] at q; simp at q
theorem of_hidT {h : Heap} {H : Hp} {b : Addr} {o : Obj} (e : (hidT h H).get? b = some o) : h.get? b = some o ∧ H b = none := by
  have e' : h.get? b = some o := PySem.W.of_hideAll (trk h H) e
  refine ⟨e', ?_⟩
  cases q : H b with
  | none => rfl
  | some x =>
    have hm : b ∈ trk h H := List.mem_filter.mpr ⟨List.mem_range.mpr (Heap.lt_size e'), by simp [q]⟩
    have z : (hidT h H).get? b = none := PySem.W.hideAll_none (trk h H) hm
    rw [z] at e; cases e
noncomputable def allNews (g h : Heap) (L : Addr) : List (Addr × Obj) := (List.range h.objs.size).filterMap fun a => if a = L ∨ (g.get? a).isSome = true then none else (h.get? a).map fun o => (a, o)
noncomputable def rest (g h : Heap) (L d : Addr) : List (Addr × Obj) := (allNews g h L).filter fun p => decide (p.1 ≠ d)
end L2
namespace L2
open PySem PySem.Spec PyProof.Rows
structure Mod (K : PySem.W.Frag) (mg : Str → Option Value) (base : Heap) : Prop where
  kin : K.In base
  glob : base.Ns mainGlobals mg
  blt : ∃ mb, base.Ns builtinsNs mb ∧ ∀ x : Str, x ≠ "__name__" → mb x = bootBuiltins x
  nolimit : base.NoLimit
structure Cx where
  prog : Program
  w : World
  K : PySem.W.Frag
  mg : Str → Option Value
  base : Heap
  A : Around
  N : List Str
  s₀ : Shared
  H₀ : Hp
  env : Env
  outer : List Env
  stack : List Env
  ex : List Addr
  fn : Str → Bool
  calm : Bool
  pn : List (Addr × Obj)
  xe : Value → Shared → Prop
noncomputable def frs (l : List Env) : List Addr := l.filterMap (·.frame)
noncomputable abbrev Cx.fs (X : Cx) : List Addr := frs X.outer
noncomputable def Vis (sc : Scope) (x : Str) : Prop := sc.names.lookup x = some .local ∨ sc.names.lookup x = some .cell ∨ sc.names.lookup x = some .free
noncomputable def Loc (sc : Scope) (x : Str) : Prop := sc.names.lookup x = some .local ∨ sc.names.lookup x = some .cell
noncomputable def Look (env : Env) (h : Heap) (m : Str → Option Value) (x : Str) (u : Value) : Prop :=
  (env.kindOf x = some .local ∧ m x = some u) ∨ ((env.kindOf x = some .cell ∨ env.kindOf x = some .free) ∧ ∃ c, env.cells.lookup x = some c ∧ h.IsCell c (some u))
structure Cx.Ok (X : Cx) : Prop where
  mod : Mod X.K X.mg X.base
  kind : X.env.scope.kind = .function
  glob : X.env.globals = mainGlobals
  blt : X.env.builtins = builtinsNs
  above : X.s₀.heap.objs.size ≤ X.env.locals
  inj : ∀ x y c, X.env.cells.lookup x = some c → X.env.cells.lookup y = some c → x = y
  has : ∀ x, (X.env.kindOf x = some .cell ∨ X.env.kindOf x = some .free) → ∃ c, X.env.cells.lookup x = some c
  cab : ∀ x c, X.fn x = true → X.env.cells.lookup x = some c → X.s₀.heap.objs.size ≤ c
  hd : X.calm = true → X.A.handled = none
  frames : X.A.frames = some X.stack
  stk : X.stack = X.outer ∨ (X.stack = X.env :: X.outer ∧ X.env.frame = some X.env.locals)
  exf : ∀ b ∈ X.ex, b ≠ X.env.locals ∧ ∀ x c, X.env.cells.lookup x = some c → c ≠ b
  bs : ∀ b o, X.base.get? b = some o → X.s₀.heap.get? b = some o ∧ X.H₀ b = none
  bsz : X.base.objs.size ≤ X.s₀.heap.objs.size
  noex : ∀ b o, X.base.get? b = some o → b ∉ X.ex
  exfs : ∀ b ∈ X.ex, b ∉ X.fs
  funs : X.s₀.heap.FunFrames X.base X.outer
  frf : ∀ b ∈ X.fs, X.H₀ b = none
structure Inv (X : Cx) (pins : List (Addr × Obj)) (σ : List (Option V)) (H : Hp) (s : Shared) : Prop where
  ok : X.Ok
  os : s.os = X.s₀.os
  bare : AllBare s.gens
  base : Un X.fs X.ex X.H₀ H X.s₀.heap s.heap
  loc : ∃ m, s.heap.Ns X.env.locals m ∧ ∀ (i : Nat) (x : Str) (v : V), X.N[i]? = some x → σ[i]? = some (some v) → Vis X.env.scope x → ∃ u, RelV v u ∧ Look X.env s.heap m x u
  cell : ∀ x c, X.env.cells.lookup x = some c → ∃ v, s.heap.IsCell c v
  free : H X.env.locals = none
  freeC : ∀ x c, X.env.cells.lookup x = some c → H c = none
  pin : ∀ p ∈ X.pn ++ pins, s.heap.get? p.1 = some p.2 ∧ H p.1 = none ∧ p.1 ≠ X.env.locals ∧ p.1 ∉ X.fs ∧ ∀ v, p.2.data ≠ .cell v
  hok : HOk X.prog X.w H s.heap
  len : σ.length = X.N.length
section
variable {X : Cx} {pins : List (Addr × Obj)} {σ : List (Option V)} {H H' : Hp} {s : Shared} {h' : Heap}
theorem Cx.Ok.nofr (ok : X.Ok) {b : Addr} {o : Obj} (e : X.base.get? b = some o) : b ∉ X.fs := fun hb => by
  have := (ok.funs.mem hb).1
  rw [e] at this; cases this
theorem Inv.bs (I : Inv X pins σ H s) : ∀ b o, X.base.get? b = some o → s.heap.get? b = some o ∧ H b = none := fun b o e =>
  ⟨I.base.keep b o (I.ok.bs b o e).1 (I.ok.bs b o e).2 (I.ok.nofr e) (I.ok.noex b o e), I.base.free b o (I.ok.bs b o e).1 (I.ok.bs b o e).2 (I.ok.noex b o e)⟩
theorem Inv.bk (I : Inv X pins σ H s) : ∀ b o, X.base.get? b = some o → s.heap.get? b = some o := fun b o e => (I.bs b o e).1
theorem Inv.mod (I : Inv X pins σ H s) : Mod X.K X.mg X.base := I.ok.mod
theorem Inv.kIn (I : Inv X pins σ H s) : X.K.In s.heap := I.ok.mod.kin.keeps I.bk
theorem Inv.nolimit (I : Inv X pins σ H s) : s.heap.NoLimit := I.ok.mod.nolimit.keeps I.bk
theorem Inv.fr (I : Inv X pins σ H s) : ∃ m, Fr X.base X.env.locals s.heap m :=
  let ⟨m, hn, _⟩ := I.loc
  ⟨m, hn, I.bk, Nat.le_trans I.ok.bsz I.ok.above⟩
theorem Inv.lt (I : Inv X pins σ H s) : X.env.locals < s.heap.objs.size := let ⟨_, hn, _⟩ := I.loc; hn.lt
theorem Inv.sz (I : Inv X pins σ H s) : X.s₀.heap.objs.size ≤ s.heap.objs.size := Nat.le_trans I.ok.above (Nat.le_of_lt I.lt)
theorem Inv.nofs (I : Inv X pins σ H s) {a : Addr} (h : s.heap.objs.size ≤ a) : a ∉ X.fs := fun hb => by
  obtain ⟨_, o, ho, _⟩ := I.ok.funs.mem hb
  exact absurd (Nat.lt_of_lt_of_le (Heap.lt_size ho) (Nat.le_trans I.sz h)) (Nat.lt_irrefl _)
theorem Inv.cne (I : Inv X pins σ H s) : ∀ x c, X.env.cells.lookup x = some c → c ≠ X.env.locals := fun x c e z => by
  obtain ⟨v, o, ho, hd⟩ := I.cell x c e
  obtain ⟨m, ⟨o', es, ep, ho', hd', _⟩, _⟩ := I.loc
  rw [z, ho'] at ho; cases ho; rw [hd'] at hd; cases hd
theorem Inv.funs (I : Inv X pins σ H s) : s.heap.FunFrames X.base X.outer := by
  have all : ∀ (l : List Env), (∀ b ∈ frs l, b ∈ X.fs) → X.s₀.heap.FunFrames X.base l → s.heap.FunFrames X.base l := by
    intro l
    induction l with
    | nil => intro _ _; trivial
    | cons env r ih =>
      intro hs hl
      obtain ⟨hk, ⟨L, o, hf, hn, ho, hd⟩, hr⟩ := hl
      have hL : L ∈ X.fs := hs L (by unfold frs; rw [List.filterMap_cons, hf]; exact List.mem_cons_self)
      obtain ⟨sl, e⟩ := I.base.slot L o ho (I.ok.frf L hL) hL fun z => I.ok.exfs L z hL
      exact ⟨hk, ⟨L, _, hf, hn, e, hd⟩, ih (fun b hb => hs b (by unfold frs; rw [List.filterMap_cons, hf]; exact List.mem_cons_of_mem _ hb)) hr⟩
  exact all X.outer (fun _ hb => hb) I.ok.funs
theorem Inv.stack (I : Inv X pins σ H s) : s.heap.FunFrames X.base X.stack := by
  rcases I.ok.stk with e | ⟨e, hf⟩
  · rw [e]; exact I.funs
  · rw [e]
    obtain ⟨m, hn, _⟩ := I.loc
    refine .cons (by rw [I.ok.kind]; decide) hf hn ?_ I.funs
    exact Heap.get?_none_of_le (Nat.le_trans I.ok.bsz I.ok.above)
theorem Inv.stkSub (I : Inv X pins σ H s) : ∀ b ∈ frs X.stack, b ∈ X.env.locals :: X.fs := fun b hb => by
  rcases I.ok.stk with e | ⟨e, hf⟩
  · rw [e] at hb; exact List.mem_cons_of_mem _ hb
  · rw [e] at hb
    unfold frs at hb
    rw [List.filterMap_cons, hf] at hb
    exact hb
theorem Inv.stkFree (I : Inv X pins σ H s) : ∀ b ∈ frs X.stack, H b = none := fun b hb => by
  rcases List.mem_cons.mp (I.stkSub b hb) with e | hb
  · rw [e]; exact I.free
  · obtain ⟨_, o, ho, _⟩ := I.ok.funs.mem hb
    exact I.base.free b o ho (I.ok.frf b hb) fun z => I.ok.exfs b z hb
theorem Inv.step {g' : Array GenState} {t' : Nat} {d' : Drawn} {ch : List Addr} (I : Inv X pins σ H s)
    (hch : ∀ b ∈ ch, (b ∈ X.ex ∨ X.s₀.heap.objs.size ≤ b) ∧ b ≠ X.env.locals ∧ (∀ x c, X.env.cells.lookup x = some c → c ≠ b) ∧ ∀ p ∈ X.pn ++ pins, p.1 ≠ b)
    (keep : ∀ b o, b ≠ X.env.locals → b ∉ X.fs → b ∉ ch → s.heap.get? b = some o → H b = none → h'.get? b = some o)
    (slot : ∀ b o, b ≠ X.env.locals → b ∈ X.fs → b ∉ ch → s.heap.get? b = some o → H b = none → ∃ sl, h'.get? b = some { o with slots := sl }) (free : ∀ b o, b ∉ ch → s.heap.get? b = some o → H b = none → H' b = none)
    (there : ∀ b o, b ∉ ch → s.heap.get? b = some o → ∃ o', h'.get? b = some o')
    (tups : ∀ b xs, H b = some (.tup xs) → H' b = some (.tup xs)) (frzs : ∀ b o u, H b = some (.frz o u) → H' b = some (.frz o u)) (tbls : ∀ b ps, H b = some (.tbl ps) → ∃ more, H' b = some (.tbl (ps ++ more)))
    (ns : ∀ m, s.heap.Ns X.env.locals m → h'.Ns X.env.locals m) (hok : HOk X.prog X.w H' h') (hg : AllBare g') :
    Inv X pins σ H' { s with heap := h', gens := g', drawn := d', toks := t' } := by
  have neL : ∀ b o, X.s₀.heap.get? b = some o → b ≠ X.env.locals := fun b o e => Nat.ne_of_lt (Nat.lt_of_lt_of_le (Heap.lt_size e) I.ok.above)
  have neC : ∀ b o, X.s₀.heap.get? b = some o → b ∉ X.ex → b ∉ ch := fun b o e hx hb => by
    rcases (hch b hb).1 with z | z
    · exact hx z
    · exact absurd (Nat.lt_of_lt_of_le (Heap.lt_size e) z) (Nat.lt_irrefl _)
  have cellK : ∀ x c, X.env.cells.lookup x = some c → ∀ v, s.heap.IsCell c v → h'.IsCell c v := fun x c e v ⟨o, ho, hd⟩ => by
    have nch : c ∉ ch := fun z => (hch c z).2.2.1 x c e rfl
    by_cases hc : c ∈ X.fs
    · obtain ⟨sl, q⟩ := slot c o (I.cne x c e) hc nch ho (I.freeC x c e)
      exact ⟨_, q, hd⟩
    · exact ⟨o, keep c o (I.cne x c e) hc nch ho (I.freeC x c e), hd⟩
  refine ⟨I.ok, I.os, hg, ⟨fun b o e n hb hx => ?_, fun b o e n hb hx => ?_, fun b o e n hx => ?_, fun b o e hx => ?_, fun b xs e => tups b xs (I.base.tups b xs e), fun b o xs e => frzs b o xs (I.base.frzs b o xs e), fun b ps e => ?_⟩, ?_, fun x c e => ?_, ?_, fun x c e => ?_, fun p hp => ?_, hok, I.len⟩
  · exact keep b o (neL b o e) hb (neC b o e hx) (I.base.keep b o e n hb hx) (I.base.free b o e n hx)
  · obtain ⟨sl, e1⟩ := I.base.slot b o e n hb hx
    obtain ⟨sl', e2⟩ := slot b _ (neL b o e) hb (neC b o e hx) e1 (I.base.free b o e n hx)
    exact ⟨sl', e2⟩
  · obtain ⟨o', e1⟩ := I.base.there b o e hx
    exact free b o' (neC b o e hx) e1 (I.base.free b o e n hx)
  · obtain ⟨o', e1⟩ := I.base.there b o e hx
    exact there b o' (neC b o e hx) e1
  · obtain ⟨m1, e1⟩ := I.base.tbls b ps e
    obtain ⟨m2, e2⟩ := tbls b _ e1
    exact ⟨m1 ++ m2, by rw [e2, Array.append_assoc]⟩
  · obtain ⟨m, hn, hl⟩ := I.loc
    refine ⟨m, ns m hn, fun i x v e1 e2 e3 => ?_⟩
    obtain ⟨u, r, l⟩ := hl i x v e1 e2 e3
    refine ⟨u, r, ?_⟩
    rcases l with l | ⟨k, c, e, z⟩
    · exact .inl l
    · exact .inr ⟨k, c, e, cellK x c e _ z⟩
  · obtain ⟨v, z⟩ := I.cell x c e
    exact ⟨v, cellK x c e v z⟩
  · obtain ⟨m, ⟨o, _, _, ho, _⟩, _⟩ := I.loc
    exact free _ o (fun z => (hch _ z).2.1 rfl) ho I.free
  · obtain ⟨v, o, ho, hd⟩ := I.cell x c e
    exact free c o (fun z => (hch c z).2.2.1 x c e rfl) ho (I.freeC x c e)
  · obtain ⟨e, n, ne, nf, d⟩ := I.pin p hp
    have nch : p.1 ∉ ch := fun z => (hch p.1 z).2.2.2 p hp rfl
    exact ⟨keep p.1 p.2 ne nf nch e n, free p.1 p.2 nch e n, ne, nf, d⟩
theorem Inv.un {t' : Nat} (I : Inv X pins σ H s) (u : Un X.fs [] H H' s.heap h') (hok : HOk X.prog X.w H' h') : Inv X pins σ H' { s with heap := h', toks := t' } := by
  obtain ⟨m, ⟨o, es, ep, ho, r⟩, _⟩ := id I.loc
  obtain ⟨sl, hL⟩ := u.any ho I.free (by simp)
  exact I.step (g' := s.gens) (d' := s.drawn) (ch := []) (fun _ z => nomatch z) (fun b o _ hb _ e n => u.keep b o e n hb (by simp)) (fun b o _ hb _ e n => u.slot b o e n hb (by simp)) (fun b o _ e n => u.free b o e n (by simp)) (fun b o _ e => u.there b o e (by simp)) u.tups u.frzs u.tbls (fun m' hm => by
    obtain ⟨o', es', ep', ho', r'⟩ := hm
    rw [ho] at ho'; cases ho'
    exact ⟨_, es', ep', hL, r'⟩) hok I.bare
theorem Inv.call {g' : Array GenState} {t' : Nat} {d' : Drawn} {ch : List Addr} (I : Inv X pins σ H s) (u : Un (frs X.stack) ch H H' s.heap h') (hok : HOk X.prog X.w H' h') (hg : AllBare g')
    (hch : ∀ b ∈ ch, (b ∈ X.ex ∨ X.s₀.heap.objs.size ≤ b) ∧ b ≠ X.env.locals ∧ (∀ x c, X.env.cells.lookup x = some c → c ≠ b) ∧ ∀ p ∈ X.pn ++ pins, p.1 ≠ b) :
    Inv X pins σ H' { s with heap := h', gens := g', drawn := d', toks := t' } := by
  obtain ⟨m, ⟨o, es, ep, ho, r⟩, _⟩ := id I.loc
  obtain ⟨sl, hL⟩ := u.any ho I.free fun z => (hch _ z).2.1 rfl
  exact I.step (ch := ch) hch (fun b o hL hb hc e n => u.keep b o e n (fun z => (List.mem_cons.mp (I.stkSub b z)).elim hL hb) hc) (fun b o _ _ hc e n => u.any e n hc) (fun b o hc e n => u.free b o e n hc) (fun b o hc e => u.there b o e hc) u.tups u.frzs u.tbls (fun m' hm => by
    obtain ⟨o', es', ep', ho', r'⟩ := hm
    rw [ho] at ho'; cases ho'
    exact ⟨_, es', ep', hL, r'⟩) hok hg
theorem Inv.turned {t' : Nat} {it : Addr} (I : Inv X pins σ H s) (k : ∀ b o, b ≠ it → s.heap.get? b = some o → h'.get? b = some o) (hn : H it = none) (hL : it ≠ X.env.locals)
    (h1 : it ∈ X.ex ∨ X.s₀.heap.objs.size ≤ it) (h2 : ∀ x c, X.env.cells.lookup x = some c → c ≠ it) (h3 : ∀ p ∈ X.pn ++ pins, p.1 ≠ it) : Inv X pins σ H { s with heap := h', toks := t' } := by
  have nit : ∀ b u, H b = some u → b ≠ it := fun b u e z => by rw [z, hn] at e; cases e
  refine I.step (g' := s.gens) (d' := s.drawn) (ch := [it]) (fun b hb => ?_) (fun b o _ _ hc e _ => k b o (fun z => hc (by simp [z])) e) (fun b o _ _ hc e _ => ⟨o.slots, k b o (fun z => hc (by simp [z])) e⟩) (fun _ _ _ _ n => n)
    (fun b o hc e => ⟨o, k b o (fun z => hc (by simp [z])) e⟩) (fun _ _ e => e) (fun _ _ _ e => e) (fun b ps e => ⟨#[], by rw [e]; simp⟩) (fun m hm => ?_) (fun b u e => ?_) I.bare
  · have e : b = it := by simpa using hb
    subst e
    exact ⟨h1, hL, h2, h3⟩
  · obtain ⟨o, es, ep, ho, r⟩ := hm
    exact ⟨o, es, ep, k _ o (Ne.symm hL) ho, r⟩
  · refine (I.hok b u e).stay (fun c v hc q => k c v ?_ q) (fun _ q => q) fun _ _ q => q
    rcases hc with z | z
    · rw [z]; exact nit b u e
    · exact nit c _ z
theorem Inv.tok (I : Inv X pins σ H s) (t : Nat) : Inv X pins σ H { s with toks := t } := I.un (h' := s.heap) (t' := t) Un.refl I.hok
theorem Inv.kept {t' : Nat} (I : Inv X pins σ H s) (k : ∀ b u, s.heap.get? b = some u → h'.get? b = some u) : Inv X pins σ H { s with heap := h', toks := t' } := I.un (Un.kept k) (I.hok.kept k)
theorem Inv.laid {a : Addr} {o : HO} {t' : Nat} (I : Inv X pins σ H s) (k : ∀ b u, s.heap.get? b = some u → h'.get? b = some u) (hp : s.heap.objs.size ≤ a) (new : ObjOk X.prog X.w (upd H a o) h' a o) :
    Inv X pins σ (upd H a o) { s with heap := h', toks := t' } := I.un (Un.laid k hp (I.hok.fresh hp)) (I.hok.laid k hp new)
theorem Inv.write {x e : Addr} {o : HO} {t' : Nat} (I : Inv X pins σ H s) (mu : Mut (H x)) (he : e = x ∨ H e = some (.own x)) (k : ∀ b u, b ≠ e → s.heap.get? b = some u → h'.get? b = some u) (heo : ∃ u, h'.get? e = some u)
    (new : ObjOk X.prog X.w (upd H x o) h' x o) : Inv X pins σ (upd H x o) { s with heap := h', toks := t' } := I.un (Un.write mu he k heo) (I.hok.write mu he k heo new)
theorem Inv.pins_of {pins' : List (Addr × Obj)} (I : Inv X pins σ H s) (h : ∀ p ∈ pins', s.heap.get? p.1 = some p.2 ∧ H p.1 = none ∧ p.1 ≠ X.env.locals ∧ p.1 ∉ X.fs ∧ ∀ v, p.2.data ≠ .cell v) : Inv X pins' σ H s :=
  ⟨I.ok, I.os, I.bare, I.base, I.loc, I.cell, I.free, I.freeC, fun p hp => (List.mem_append.mp hp).elim (fun z => I.pin p (List.mem_append_left _ z)) (h p), I.hok, I.len⟩
theorem nodup_ix {N : List Str} (hN : N.Nodup) {i j : Nat} {x : Str} (a : N[i]? = some x) (b : N[j]? = some x) : i = j := by
  obtain ⟨h1, e1⟩ := List.getElem?_eq_some_iff.mp a
  obtain ⟨h2, e2⟩ := List.getElem?_eq_some_iff.mp b
  exact (List.getElem_inj hN).mp (e1.trans e2.symm)
theorem store_ok2 {M : Model} {A : Around} {E : Value → Shared → Prop} {i : Nat} {x : Str} {v : V} {u : Value} {Q : Unit → Shared → Prop} (I : Inv X pins σ H s) (hN : X.N.Nodup) (hi : X.N[i]? = some x) (hx : Loc X.env.scope x) (r : RelV v u)
    (h : ∀ s', Inv X pins (σ.set i (some v)) H s' → (∃ a, Heap.SameBut a s.heap s'.heap ∧ (a = X.env.locals ∨ X.env.cells.lookup x = some a)) → Q () s') (hf : X.fn x = true ∨ X.env.scope.names.lookup x = some .local := by first | exact .inl rfl | exact .inr rfl | assumption) : wpAny M A (storeName X.env x u) Q E s := by
  obtain ⟨m, hn, hl⟩ := id I.loc
  have hcls : (X.env.scope.kind == .class || (X.env.scope.kind == .module && X.env.locals != X.env.globals)) = false := by rw [I.ok.kind]; rfl
  have hiσ : i < σ.length := by rw [I.len]; exact (List.getElem?_eq_some_iff.mp hi).1
  have cne := I.cne
  have tracked : ∀ {a : Addr} {h' : Heap}, (∃ o, s.heap.get? a = some o ∧ H a = none) → Heap.SameBut a s.heap h' → HOk X.prog X.w H h' := fun {a h'} ha hs b ob e => by
    obtain ⟨_, _, hfree⟩ := ha
    refine (I.hok b ob e).stay (fun c w' hc q => (hs.2 c ?_).trans q) (fun _ q => q) fun _ _ q => q
    rintro rfl
    rcases hc with rfl | hc
    · rw [hfree] at e; cases e
    · rw [hfree] at hc; cases hc
  rcases hx with hk | hk
  · refine wpAny_storeName_local hk hn (fun h' hn' hs => ?_) hcls
    obtain ⟨oL, _, _, hoL, _⟩ := id hn
    refine h _ ⟨I.ok, I.os, I.bare, ⟨fun b o e n hb hx => ?_, fun b o e n hb hx => ?_, I.base.free, fun b o e hx => ?_, I.base.tups, I.base.frzs, I.base.tbls⟩, ⟨_, hn', fun j y v' e1 e2 e3 => ?_⟩, fun y c e => ?_, I.free, I.freeC, fun p hp => ?_, tracked ⟨oL, hoL, I.free⟩ hs, by simpa using I.len⟩ ⟨_, hs, .inl rfl⟩
    · exact (hs.2 b (Nat.ne_of_lt (Nat.lt_of_lt_of_le (Heap.lt_size e) I.ok.above))).trans (I.base.keep b o e n hb hx)
    · obtain ⟨sl, e1⟩ := I.base.slot b o e n hb hx
      exact ⟨sl, (hs.2 b (Nat.ne_of_lt (Nat.lt_of_lt_of_le (Heap.lt_size e) I.ok.above))).trans e1⟩
    · obtain ⟨o', e1⟩ := I.base.there b o e hx
      exact ⟨o', (hs.2 b (Nat.ne_of_lt (Nat.lt_of_lt_of_le (Heap.lt_size e) I.ok.above))).trans e1⟩
    · by_cases hj : j = i
      · subst hj
        rw [hi] at e1; cases e1
        rw [List.getElem?_set_self hiσ] at e2
        cases e2
        exact ⟨u, r, .inl ⟨hk, by simp⟩⟩
      · rw [List.getElem?_set_ne (Ne.symm hj)] at e2
        obtain ⟨u', r', q⟩ := hl j y v' e1 e2 e3
        refine ⟨u', r', ?_⟩
        rcases q with ⟨k, e⟩ | ⟨k, c, e, z⟩
        · refine .inl ⟨k, ?_⟩
          have : y ≠ x := fun e => hj (nodup_ix hN e1 (e ▸ hi))
          simp [this, e]
        · exact .inr ⟨k, c, e, z.sameBut hs (cne y c e)⟩
    · obtain ⟨w', z⟩ := I.cell y c e
      exact ⟨w', z.sameBut hs (cne y c e)⟩
    · obtain ⟨e, n, ne, nf, d⟩ := I.pin p hp
      exact ⟨(hs.2 p.1 ne).trans e, n, ne, nf, d⟩
  · have hfn : X.fn x = true := by
      rcases hf with z | z
      · exact z
      · rw [z] at hk; cases hk
    obtain ⟨c, hc⟩ := I.ok.has x (.inl hk)
    obtain ⟨w', z⟩ := I.cell x c hc
    refine wpAny_storeName_cell I.ok.kind hk hc z (fun h' hc' hs => ?_)
    obtain ⟨oc, hoc, hocd⟩ := id z
    refine h { s with heap := h' } ⟨I.ok, I.os, I.bare, ⟨fun b o e n hb hx => ?_, fun b o e n hb hx => ?_, I.base.free, fun b o e hx => ?_, I.base.tups, I.base.frzs, I.base.tbls⟩, ⟨m, hn.sameBut hs (Ne.symm (cne x c hc)), fun j y v' e1 e2 e3 => ?_⟩, fun y c' e => ?_, I.free, I.freeC, fun p hp => ?_, tracked ⟨oc, hoc, I.freeC x c hc⟩ hs, by simpa using I.len⟩ ⟨c, hs, .inr hc⟩
    · exact (hs.2 b (Nat.ne_of_lt (Nat.lt_of_lt_of_le (Heap.lt_size e) (I.ok.cab x c hfn hc)))).trans (I.base.keep b o e n hb hx)
    · obtain ⟨sl, e1⟩ := I.base.slot b o e n hb hx
      exact ⟨sl, (hs.2 b (Nat.ne_of_lt (Nat.lt_of_lt_of_le (Heap.lt_size e) (I.ok.cab x c hfn hc)))).trans e1⟩
    · obtain ⟨o', e1⟩ := I.base.there b o e hx
      exact ⟨o', (hs.2 b (Nat.ne_of_lt (Nat.lt_of_lt_of_le (Heap.lt_size e) (I.ok.cab x c hfn hc)))).trans e1⟩
    · by_cases hj : j = i
      · subst hj
        rw [hi] at e1; cases e1
        rw [List.getElem?_set_self hiσ] at e2
        cases e2
        exact ⟨u, r, .inr ⟨.inl hk, c, hc, hc'⟩⟩
      · rw [List.getElem?_set_ne (Ne.symm hj)] at e2
        obtain ⟨u', r', q⟩ := hl j y v' e1 e2 e3
        refine ⟨u', r', ?_⟩
        rcases q with q | ⟨k, c', e, z'⟩
        · exact .inl q
        · refine .inr ⟨k, c', e, z'.sameBut hs ?_⟩
          rintro rfl
          exact hj (nodup_ix hN e1 (I.ok.inj _ _ _ e hc ▸ hi))
    · by_cases hcc : c' = c
      · subst hcc; exact ⟨_, hc'⟩
      · obtain ⟨w2, z2⟩ := I.cell y c' e
        exact ⟨w2, z2.sameBut hs hcc⟩
    · obtain ⟨e, n, ne, nf, d⟩ := I.pin p hp
      refine ⟨(hs.2 p.1 ?_).trans e, n, ne, nf, d⟩
      intro q
      rw [q, hoc] at e
      have q' : oc = p.2 := Option.some.inj e
      exact d w' (by rw [← q']; exact hocd)
theorem store_ok {M : Model} {A : Around} {E : Value → Shared → Prop} {i : Nat} {x : Str} {v : V} {u : Value} {Q : Unit → Shared → Prop} (I : Inv X pins σ H s) (hN : X.N.Nodup) (hi : X.N[i]? = some x) (hx : Loc X.env.scope x) (r : RelV v u)
    (h : ∀ s', Inv X pins (σ.set i (some v)) H s' → Q () s') (hf : X.fn x = true ∨ X.env.scope.names.lookup x = some .local := by first | exact .inl rfl | exact .inr rfl | assumption) : wpAny M A (storeName X.env x u) Q E s :=
  store_ok2 I hN hi hx r (fun s' I' _ => h s' I') hf
theorem Inv.call' {s' : Shared} {ch : List Addr} (I : Inv X pins σ H s) (ho : s'.os = s.os) (u : Un (frs X.stack) ch H H' s.heap s'.heap) (hok : HOk X.prog X.w H' s'.heap) (hg : AllBare s'.gens)
    (hch : ∀ b ∈ ch, (b ∈ X.ex ∨ X.s₀.heap.objs.size ≤ b) ∧ b ≠ X.env.locals ∧ (∀ x c, X.env.cells.lookup x = some c → c ≠ b) ∧ ∀ p ∈ X.pn ++ pins, p.1 ≠ b) : Inv X pins σ H' s' := by
  obtain ⟨h', g', d', t', o'⟩ := s'
  have e : o' = s.os := ho
  subst e
  exact I.call (g' := g') (t' := t') (d' := d') u hok hg hch
end
abbrev XK := Value → Option Addr → Hp → Prop
abbrev St := List (Option V)
abbrev VK := V → Hp → Prop
abbrev TE := St → Hp → VK → Prop
abbrev TT := St → Hp → (Bool → Hp → Prop) → Prop
abbrev TA := St → Hp → (List V → Hp → Prop) → Prop
structure Ends where
  nx : St → Hp → Prop
  rt : VK
  bk : St → Hp → Prop := fun _ _ => False
  ct : St → Hp → Prop := fun _ _ => False
abbrev TS := Ends → St → Hp → Prop
noncomputable def EP (X : Cx) (pins : List (Addr × Obj)) (σ : St) (Q : VK) (u : Value) (s' : Shared) : Prop := ∃ v H', Inv X pins σ H' s' ∧ RelV v u ∧ Q v H'
noncomputable def TP (X : Cx) (pins : List (Addr × Obj)) (σ : St) (Q : Bool → Hp → Prop) (b : Bool) (s' : Shared) : Prop := ∃ H', Inv X pins σ H' s' ∧ Q b H'
noncomputable def AP (X : Cx) (pins : List (Addr × Obj)) (σ : St) (Q : List V → Hp → Prop) (us : List Value) (s' : Shared) : Prop := ∃ vs H', Inv X pins σ H' s' ∧ Vals vs us ∧ Q vs H'
noncomputable def SP (X : Cx) (pins : List (Addr × Obj)) (D : Ends) (f : Flow) (s' : Shared) : Prop :=
  match f with
  | .next => ∃ σ' H', Inv X pins σ' H' s' ∧ D.nx σ' H'
  | .brk => ∃ σ' H', Inv X pins σ' H' s' ∧ D.bk σ' H'
  | .cont => ∃ σ' H', Inv X pins σ' H' s' ∧ D.ct σ' H'
  | .ret u => ∃ v σ' H', Inv X pins σ' H' s' ∧ RelV v u ∧ D.rt v H'
noncomputable def PE (X : Cx) (e : Expr) (t : TE) : Prop :=
  ∀ (pins : List (Addr × Obj)) (s : Shared) (σ : St) (H : Hp) (Q : VK), Inv X pins σ H s → t σ H Q → wpAny (model X.prog X.w) X.A (eval e X.env) (EP X pins σ Q) X.xe s
noncomputable def PT (X : Cx) (e : Expr) (t : TT) : Prop :=
  ∀ (pins : List (Addr × Obj)) (s : Shared) (σ : St) (H : Hp) (Q : Bool → Hp → Prop), Inv X pins σ H s → t σ H Q → wpAny (model X.prog X.w) X.A (isTrue e X.env (eval e X.env)) (TP X pins σ Q) X.xe s
noncomputable def PW (X : Cx) (e : Expr) (t : TT) : Prop :=
  ∀ (whole : Sem Value) (pins : List (Addr × Obj)) (s : Shared) (σ : St) (H : Hp) (Q : Bool → Hp → Prop), Inv X pins σ H s → t σ H Q → wpAny (model X.prog X.w) X.A (isTrue e X.env whole) (TP X pins σ Q) X.xe s
theorem PW.pt {X : Cx} {e : Expr} {t : TT} (h : PW X e t) : PT X e t := h _
noncomputable def PA (X : Cx) (es : List Expr) (t : TA) : Prop :=
  ∀ (pos : Pos) (pins : List (Addr × Obj)) (s : Shared) (σ : St) (H : Hp) (Q : List V → Hp → Prop), Inv X pins σ H s → t σ H Q → wpAny (model X.prog X.w) X.A (spliced (backTo pos (starEach es X.env))) (AP X pins σ Q) X.xe s
noncomputable def PS (X : Cx) (st : Stmt) (t : TS) : Prop :=
  ∀ (pins : List (Addr × Obj)) (s : Shared) (σ : St) (H : Hp) (D : Ends), Inv X pins σ H s → t D σ H → wpAny (model X.prog X.w) X.A (exec st X.env) (SP X pins D) X.xe s
noncomputable def PSs (X : Cx) (st : List Stmt) (t : TS) : Prop :=
  ∀ (pins : List (Addr × Obj)) (s : Shared) (σ : St) (H : Hp) (D : Ends), Inv X pins σ H s → t D σ H → wpAny (model X.prog X.w) X.A (execs st X.env) (SP X pins D) X.xe s
theorem thn {α : Type} {t : Sem α} {Q Q' : α → Shared → Prop} {M : Model} {A : Around} {E : Value → Shared → Prop} {s : Shared} (h : wpAny M A t Q E s) (hQ : ∀ a s, Q a s → Q' a s) : wpAny M A t Q' E s := wpAny_mono h hQ fun _ _ x => x
end L2
namespace L2
open PySem PySem.Spec PyProof.Rows
section
variable {X : Cx}
theorem bin {a b : Expr} {ta tb : TE} (ha : PE X a ta) (hb : PE X b tb) {pins : List (Addr × Obj)} {s : Shared} {σ : St} {H : Hp} {R : V → V → Hp → Prop} (I : Inv X pins σ H s) (h : ta σ H fun x H1 => tb σ H1 fun y H2 => R x y H2)
    {α : Type} {Q : α → Shared → Prop} {f : Value → Value → Sem α}
    (hf : ∀ v u s2 x y H2, Inv X pins σ H2 s2 → RelV x v → RelV y u → R x y H2 → wpAny (model X.prog X.w) X.A (f v u) Q X.xe s2) :
    wpAny (model X.prog X.w) X.A (eval a X.env) (fun v s₁ => wpAny (model X.prog X.w) X.A (eval b X.env) (fun u s₂ => wpAny (model X.prog X.w) X.A (f v u) Q X.xe s₂) X.xe s₁) X.xe s := by
  refine thn (ha pins s σ H _ I h) fun v s1 ⟨x, H1, I1, r1, q1⟩ => ?_
  refine thn (hb pins s1 σ H1 _ I1 q1) fun u s2 ⟨y, H2, I2, r2, q2⟩ => ?_
  exact hf v u s2 x y H2 I2 r1 r2 q2
noncomputable def tVar (i : Nat) : TE := fun σ H Q => ∃ v, σ[i]? = some (some v) ∧ Q v H
noncomputable def tC (v : V) : TE := fun _ H Q => Q v H
theorem pe_var {i : Nat} {x : Str} {pos : Pos} (hN : X.N[i]? = some x) (hv : Vis X.env.scope x) (hd : (x == ("__debug__" : Str)) = false := by decide) (hcd : (x == ("__classdict__" : Str)) = false := by decide) : PE X (.Name x pos) (tVar i) := by
  intro pins s σ H Q I h
  obtain ⟨v, e, h⟩ := h
  obtain ⟨m, hn, hl⟩ := I.loc
  obtain ⟨u, r, l⟩ := hl i x v hN e hv
  have fin : EP X pins σ Q u s := ⟨v, H, I, r, h⟩
  rcases l with ⟨hk, hm⟩ | ⟨hk, c, hc, hcell⟩
  · exact wpAny_Name (wpAny_loadName_local I.ok.kind hk hn hm fin) hd
  · rcases hk with hk | hk
    · exact wpAny_Name (wpAny_loadName_cell I.ok.kind hk hc hcell fin) hd
    · exact wpAny_Name (wpAny_loadName_free I.ok.kind hk hc hcell fin hcd) hd
theorem pe_int {i j pos} : PE X (.Constant (.int i) j pos) (tC (.int i)) := fun _ _ _ H _ I h => wpAny_Constant_int ⟨.int i, H, I.tok _, ⟨_, rfl⟩, h⟩
theorem pe_bl {b j pos} : PE X (.Constant (.bool b) j pos) (tC (.bl b)) := fun _ _ _ H _ I h => Constant_bool ⟨.bl b, H, I, rfl, h⟩
theorem pe_non {j pos} : PE X (.Constant .none j pos) (tC .non) := fun _ _ _ H _ I h => Constant_none ⟨.non, H, I, rfl, h⟩
theorem pe_str {x j pos} : PE X (.Constant (.str x) j pos) (tC (.str x)) := fun _ _ _ H _ I h => Calls.Constant_str ⟨.str x, H, I.tok _, ⟨_, rfl⟩, h⟩
noncomputable def Gl (X : Cx) (x : Str) : Prop := X.env.kindOf x = some .globalImplicit
theorem ld_glob {E : Value → Shared → Prop} {pins : List (Addr × Obj)} {s : Shared} {σ : St} {H : Hp} {x : Str} {u : Value} {pos : Pos} {Q : Value → Shared → Prop} (I : Inv X pins σ H s) (hg : Gl X x) (hm : X.mg x = some u) (h : Q u s)
    (hd : (x == ("__debug__" : Str)) = false := by decide) : wpAny (model X.prog X.w) X.A (eval (.Name x pos) X.env) Q E s :=
  Calls.Name_function_global I.ok.kind hg (Calls.loadGlobal_global (by rw [I.ok.glob]; exact I.mod.glob.keeps I.bk) hm h) hd
theorem ld_blt {E : Value → Shared → Prop} {pins : List (Addr × Obj)} {s : Shared} {σ : St} {H : Hp} {x : Str} {u : Value} {pos : Pos} {Q : Value → Shared → Prop} (I : Inv X pins σ H s) (hg : Gl X x) (hm : X.mg x = none) (hv : bootBuiltins x = some u) (h : Q u s)
    (hn : x ≠ "__name__" := by decide) (hd : (x == ("__debug__" : Str)) = false := by decide) : wpAny (model X.prog X.w) X.A (eval (.Name x pos) X.env) Q E s := by
  obtain ⟨mb, h1, h2⟩ := I.mod.blt
  exact Calls.Name_function_global I.ok.kind hg (Calls.loadGlobal_builtin (by rw [I.ok.glob]; exact I.mod.glob.keeps I.bk) hm (by rw [I.ok.blt]; exact h1.keeps I.bk) ((h2 x hn).trans hv) h) hd
theorem pe_glob {x : Str} {v : V} {u : Value} {pos : Pos} (hg : Gl X x) (hm : X.mg x = some u) (r : RelV v u) (hd : (x == ("__debug__" : Str)) = false := by decide) : PE X (.Name x pos) (tC v) :=
  fun _ _ _ H _ I h => ld_glob I hg hm ⟨v, H, I, r, h⟩ hd
theorem pe_bltn {x : Str} {v : V} {u : Value} {pos : Pos} (hg : Gl X x) (hm : X.mg x = none) (hv : bootBuiltins x = some u) (r : RelV v u) (hn : x ≠ "__name__" := by decide) (hd : (x == ("__debug__" : Str)) = false := by decide) : PE X (.Name x pos) (tC v) :=
  fun _ _ _ H _ I h => ld_blt I hg hm hv ⟨v, H, I, r, h⟩ hn hd
variable {a b : Expr} {ta tb : TE} {pos : Pos}
variable {tA tB' : TT} {rest : List Expr}
noncomputable def tAnd (t u : TT) : TT := fun σ H Q => t σ H fun c H1 => if c = true then u σ H1 Q else Q false H1
noncomputable def tOr (t u : TT) : TT := fun σ H Q => t σ H fun c H1 => if c = true then Q true H1 else u σ H1 Q
noncomputable def tNot (t : TT) : TT := fun σ H Q => t σ H fun c H1 => Q (!c) H1
theorem pw_and1 (ha : PT X a tA) : PW X (.BoolOp .And [a] pos) tA := by
  intro wh pins s σ H Q I h
  refine isTrue_and (thn (ha pins s σ H Q I h) fun c s1 e => ?_)
  cases c with
  | true => exact isTrue_and_nil e
  | false => exact e
theorem pw_or1 (ha : PT X a tA) : PW X (.BoolOp .Or [a] pos) tA := by
  intro wh pins s σ H Q I h
  refine isTrue_or (thn (ha pins s σ H Q I h) fun c s1 e => ?_)
  cases c with
  | false => exact isTrue_or_nil e
  | true => exact e
theorem pw_and (ha : PT X a tA) (hb : PW X (.BoolOp .And (b :: rest) pos) tB') : PW X (.BoolOp .And (a :: b :: rest) pos) (tAnd tA tB') := by
  intro wh pins s σ H Q I h
  refine isTrue_and (thn (ha pins s σ H _ I h) fun c s1 ⟨H1, I1, q1⟩ => ?_)
  cases c with
  | true => exact hb wh pins s1 σ H1 Q I1 q1
  | false => exact ⟨H1, I1, q1⟩
theorem pw_or (ha : PT X a tA) (hb : PW X (.BoolOp .Or (b :: rest) pos) tB') : PW X (.BoolOp .Or (a :: b :: rest) pos) (tOr tA tB') := by
  intro wh pins s σ H Q I h
  refine isTrue_or (thn (ha pins s σ H _ I h) fun c s1 ⟨H1, I1, q1⟩ => ?_)
  cases c with
  | true => exact ⟨H1, I1, q1⟩
  | false => exact hb wh pins s1 σ H1 Q I1 q1
theorem pt_not (ha : PT X a tA) : PT X (.UnaryOp .Not a pos) (tNot tA) := by
  intro pins s σ H Q I h
  exact isTrue_not (ha pins s σ H (fun c H1 => Q (!c) H1) I h)
noncomputable def tAndV (ta tb : TE) : TE := fun σ H Q => ta σ H fun x H1 => ∃ c, x = .bl c ∧ if c = true then tb σ H1 Q else Q (.bl false) H1
noncomputable def tOrV (ta tb : TE) : TE := fun σ H Q => ta σ H fun x H1 => ∃ c, x = .bl c ∧ if c = true then Q (.bl true) H1 else tb σ H1 Q
noncomputable def tNotV (ta : TE) : TE := fun σ H Q => ta σ H fun x H1 => ∃ c, x = .bl c ∧ Q (.bl (!c)) H1
theorem pe_one {op} {t : TE} (h : PE X a t) : PE X (.BoolOp op [a] pos) t := fun pins s σ H Q I hw => BoolOp_one (h pins s σ H Q I hw)
theorem pe_and (ha : PE X a ta) (hb : PE X (.BoolOp .And (b :: rest) pos) tb) : PE X (.BoolOp .And (a :: b :: rest) pos) (tAndV ta tb) := by
  intro pins s σ H Q I h
  refine BoolOp_and (thn (ha pins s σ H _ I h) fun v s1 ⟨x, H1, I1, r1, q1⟩ => ?_)
  obtain ⟨c, rfl, q1⟩ := q1
  cases r1
  refine wpAny_truthy_bool ?_
  cases c with
  | true => exact hb pins s1 σ H1 Q I1 q1
  | false => exact ⟨.bl false, H1, I1, rfl, q1⟩
theorem pe_or (ha : PE X a ta) (hb : PE X (.BoolOp .Or (b :: rest) pos) tb) : PE X (.BoolOp .Or (a :: b :: rest) pos) (tOrV ta tb) := by
  intro pins s σ H Q I h
  refine BoolOp_or (thn (ha pins s σ H _ I h) fun v s1 ⟨x, H1, I1, r1, q1⟩ => ?_)
  obtain ⟨c, rfl, q1⟩ := q1
  cases r1
  refine wpAny_truthy_bool ?_
  cases c with
  | false => exact hb pins s1 σ H1 Q I1 q1
  | true => exact ⟨.bl true, H1, I1, rfl, q1⟩
theorem pe_not (ha : PE X a ta) : PE X (.UnaryOp .Not a pos) (tNotV ta) := by
  intro pins s σ H Q I h
  refine UnaryOp_ (thn (ha pins s σ H _ I h) fun v s1 ⟨x, H1, I1, r1, q1⟩ => ?_)
  obtain ⟨c, rfl, q1⟩ := q1
  cases r1
  exact not_of (wpAny_truthy_bool ⟨.bl (!c), H1, I1, rfl, q1⟩)
noncomputable def tIf (t : TT) (ta tb : TE) : TE := fun σ H Q => t σ H fun c H1 => if c = true then ta σ H1 Q else tb σ H1 Q
theorem pe_ifExp {c : Expr} (hc : PT X c tA) (ha : PE X a ta) (hb : PE X b tb) : PE X (.IfExp c a b pos) (tIf tA ta tb) := by
  intro pins s σ H Q I h
  refine wpAny_IfExp (thn (hc pins s σ H _ I h) fun d s1 ⟨H1, I1, q1⟩ => ?_)
  cases d with
  | true => exact ha pins s1 σ H1 Q I1 q1
  | false => exact hb pins s1 σ H1 Q I1 q1
end
end L2
namespace L2
open PySem PySem.Spec PyProof.Rows
noncomputable def SqL (K : PySem.W.Frag) (H : Hp) (a : Addr) (xs : List V) : Prop :=
  Rd H a (.lst xs) ∨
    ∃ (o : Obj) (its : Array Value) (n : Nat), K.lookup a = some o ∧ o.cls = .type "list" ∧ o.dict = none ∧ o.data = .seq its n ∧ its.size ≤ sizeLine ∧ Vals xs its.toList
noncomputable def SqT (K : PySem.W.Frag) (H : Hp) (a : Addr) (xs : List V) : Prop :=
  Rd H a (.tup xs) ∨
    ∃ (o : Obj) (its : Array Value) (n : Nat), K.lookup a = some o ∧ o.cls = .type "tuple" ∧ o.data = .seq its n ∧ its.size ≤ sizeLine ∧ Vals xs its.toList
noncomputable def absV : Value → Option V
  | .none => some .non
  | .bool b => some (.bl b)
  | .int i _ => some (.int i)
  | .str x _ => some (.str x)
  | .bytes b _ => some (.byt b)
  | .float b _ => some (.flt b)
  | .ref a => some (.ref a)
  | .type n => some (.ty n)
  | _ => none
theorem RelV.abs {x : V} {u : Value} (r : RelV x u) : absV u = some x := by
  cases x with
  | non => cases r; rfl
  | bl _ => cases r; rfl
  | int _ => obtain ⟨t, rfl⟩ := r; rfl
  | str _ => obtain ⟨t, rfl⟩ := r; rfl
  | byt _ => obtain ⟨t, rfl⟩ := r; rfl
  | flt _ => obtain ⟨t, rfl⟩ := r; rfl
  | ref _ => cases r; rfl
  | ty _ => cases r; rfl
theorem RelV.inj {x y : V} {u : Value} (r : RelV x u) (q : RelV y u) : x = y := Option.some.inj (r.abs.symm.trans q.abs)
theorem Vals.inj : ∀ {xs ys : List V} {us : List Value}, Vals xs us → Vals ys us → xs = ys
  | _, _, _, .nil, .nil => rfl
  | _, _, _, .cons r t, .cons r' t' => by rw [r.inj r', Vals.inj t t']
section
variable {X : Cx} {pins : List (Addr × Obj)} {σ : St} {H : Hp} {s : Shared} {a : Addr} {xs ys : List V}
theorem SqL.of {K : PySem.W.Frag} (h : H a = some (.lst xs)) : SqL K H a xs := .inl (.inl h)
theorem SqT.of {K : PySem.W.Frag} (h : H a = some (.tup xs)) : SqT K H a xs := .inl (.inl h)
theorem Inv.list (I : Inv X pins σ H s) (h : SqL X.K H a xs) : ∃ its : List Value, Vals xs its ∧ PlainL s.heap a its.toArray ∧ xs.length ≤ sizeLine := by
  rcases h with h | ⟨o, its, n, hk, hc, hd, hs, hz, r⟩
  · obtain ⟨z, its, n, r, e⟩ := h.ok I.hok
    exact ⟨its, r, ⟨_, n, e, rfl, rfl, rfl⟩, z⟩
  · refine ⟨its.toList, r, ⟨o, n, I.kIn a o hk, hc, hd, by simpa using hs⟩, ?_⟩
    have e := r.length
    simp only [Array.length_toList] at e
    omega
theorem Inv.tuple (I : Inv X pins σ H s) (h : SqT X.K H a xs) : ∃ its : List Value, Vals xs its ∧ IsTup s.heap a its.toArray ∧ xs.length ≤ sizeLine := by
  rcases h with h | ⟨o, its, n, hk, hc, hs, hz, r⟩
  · obtain ⟨z, its, r, p⟩ := h.ok I.hok
    exact ⟨its, r, p, z⟩
  · refine ⟨its.toList, r, ⟨o, I.kIn a o hk, hc, n, by simpa using hs⟩, ?_⟩
    have e := r.length
    simp only [Array.length_toList] at e
    omega
theorem Inv.list_inj (I : Inv X pins σ H s) (h : SqL X.K H a xs) (h' : SqL X.K H a ys) : xs = ys := by
  obtain ⟨its, r, ⟨o, n, e, _, _, d⟩, _⟩ := I.list h
  obtain ⟨its', r', ⟨o', n', e', _, _, d'⟩, _⟩ := I.list h'
  rw [e] at e'; cases e'
  rw [d] at d'
  injection d' with d1 _
  have : its = its' := by simpa using congrArg Array.toList d1
  subst this
  exact r.inj r'
theorem Inv.tuple_inj (I : Inv X pins σ H s) (h : SqT X.K H a xs) (h' : SqT X.K H a ys) : xs = ys := by
  obtain ⟨its, r, ⟨o, e, _, n, d⟩, _⟩ := I.tuple h
  obtain ⟨its', r', ⟨o', e', _, n', d'⟩, _⟩ := I.tuple h'
  rw [e] at e'; cases e'
  rw [d] at d'
  injection d' with d1 _
  have : its = its' := by simpa using congrArg Array.toList d1
  subst this
  exact r.inj r'
end
abbrev Cx.wish (X : Cx) (E : Value → Shared → Prop) : Cx := { X with xe := E }
abbrev Cx.nox (X : Cx) : Cx := X.wish fun _ _ => False
theorem Cx.Ok.wish {X : Cx} (ok : X.Ok) (E : Value → Shared → Prop) : (X.wish E).Ok :=
  ⟨ok.mod, ok.kind, ok.glob, ok.blt, ok.above, ok.inj, ok.has, ok.cab, ok.hd, ok.frames, ok.stk, ok.exf, ok.bs, ok.bsz, ok.noex, ok.exfs, ok.funs, ok.frf⟩
theorem Cx.Ok.unwish {X : Cx} {E : Value → Shared → Prop} (ok : (X.wish E).Ok) : X.Ok :=
  ⟨ok.mod, ok.kind, ok.glob, ok.blt, ok.above, ok.inj, ok.has, ok.cab, ok.hd, ok.frames, ok.stk, ok.exf, ok.bs, ok.bsz, ok.noex, ok.exfs, ok.funs, ok.frf⟩
section
variable {X : Cx} {pins : List (Addr × Obj)} {σ : St} {H : Hp} {s : Shared} {E : Value → Shared → Prop}
theorem Inv.wish (I : Inv X pins σ H s) (E : Value → Shared → Prop) : Inv (X.wish E) pins σ H s := ⟨I.ok.wish E, I.os, I.bare, I.base, I.loc, I.cell, I.free, I.freeC, I.pin, I.hok, I.len⟩
theorem Inv.unwish (I : Inv (X.wish E) pins σ H s) : Inv X pins σ H s := ⟨I.ok.unwish, I.os, I.bare, I.base, I.loc, I.cell, I.free, I.freeC, I.pin, I.hok, I.len⟩
theorem SP.unwish {D : Ends} {f : Flow} {s' : Shared} (h : SP (X.wish E) pins D f s') : SP X pins D f s' := by
  cases f with
  | next => obtain ⟨σ', H', I, q⟩ := h; exact ⟨σ', H', I.unwish, q⟩
  | brk => obtain ⟨σ', H', I, q⟩ := h; exact ⟨σ', H', I.unwish, q⟩
  | cont => obtain ⟨σ', H', I, q⟩ := h; exact ⟨σ', H', I.unwish, q⟩
  | ret u => obtain ⟨v, σ', H', I, r, q⟩ := h; exact ⟨v, σ', H', I.unwish, r, q⟩
theorem PE.nox {e : Expr} {t : TE} (h : PE X.nox e t) : PE X e t := fun pins s σ H Q I hw =>
  wpAny_mono (h pins s σ H Q (I.wish _) hw) (fun _ _ ⟨v, H', I', r, q⟩ => ⟨v, H', I'.unwish, r, q⟩) fun _ _ z => False.elim z
theorem PT.nox {e : Expr} {t : TT} (h : PT X.nox e t) : PT X e t := fun pins s σ H Q I hw =>
  wpAny_mono (h pins s σ H Q (I.wish _) hw) (fun _ _ ⟨H', I', q⟩ => ⟨H', I'.unwish, q⟩) fun _ _ z => False.elim z
theorem PSs.nox {st : List Stmt} {t : TS} (h : PSs X.nox st t) : PSs X st t := fun pins s σ H D I hw =>
  wpAny_mono (h pins s σ H D (I.wish _) hw) (fun _ _ q => q.unwish) fun _ _ z => False.elim z
end
section
variable {X : Cx} {st : Stmt} {rest : List Stmt} {t u : TS} {e : Expr} {te : TE} {pos : Pos}
noncomputable def tNext : TS := fun D σ H => D.nx σ H
noncomputable def tSeq (t u : TS) : TS := fun D σ H => t { D with nx := u D } σ H
theorem pss_nil : PSs X [] tNext := fun _ _ σ H _ I h => wpAny_execs_nil ⟨σ, H, I, h⟩
theorem pss_cons (h1 : PS X st t) (h2 : PSs X rest u) : PSs X (st :: rest) (tSeq t u) := by
  intro pins s σ H D I h
  refine wpAny_execs_cons (thn (h1 pins s σ H { D with nx := u D } I h) fun f s1 q => ?_)
  cases f with
  | next =>
    obtain ⟨σ', H', I', q⟩ := q
    exact h2 pins s1 σ' H' D I' q
  | ret v => exact q
  | brk => exact q
  | cont => exact q
noncomputable def tBreak : TS := fun D σ H => D.bk σ H
noncomputable def tCont : TS := fun D σ H => D.ct σ H
theorem ps_pass : PS X (.Pass pos) tNext := fun _ _ σ H _ I h => wpAny_Pass ⟨σ, H, I, h⟩
theorem ps_break : PS X (.Break pos) tBreak := fun _ _ σ H _ I h => wpAny_Break ⟨σ, H, I, h⟩
theorem ps_continue : PS X (.Continue pos) tCont := fun _ _ σ H _ I h => wpAny_Continue ⟨σ, H, I, h⟩
theorem Inv.quiet {pins : List (Addr × Obj)} {σ : St} {H : Hp} {s : Shared} (I : Inv X pins σ H s) : interactive X.env = false := by simp [interactive, I.ok.kind]
noncomputable def tDrop (te : TE) : TS := fun D σ H => te σ H fun _ H1 => D.nx σ H1
theorem ps_expr (he : PE X e te) (hs : swapsWith e none pos.line X.env = pure false := by rfl) : PS X (.Expr e pos) (tDrop te) := by
  intro pins s σ H D I h
  exact wpAny_Expr_any (thn (he pins s σ H _ I h) fun v s1 ⟨x, H1, I1, r1, q1⟩ => ⟨σ, H1, I1, q1⟩) I.quiet hs
noncomputable def tRet (te : TE) : TS := fun D σ H => te σ H D.rt
theorem ps_ret (he : PE X e te) : PS X (.Return (some e) pos) (tRet te) := by
  intro pins s σ H D I h
  exact wpAny_Return_some (thn (he pins s σ H _ I h) fun v s1 ⟨x, H1, I1, r1, q1⟩ => ⟨x, σ, H1, I1, r1, q1⟩)
noncomputable def tRetN : TS := fun D _ H => D.rt .non H
theorem ps_retN : PS X (.Return none pos) tRetN := fun _ _ σ H _ I h => wpAny_Return_none ⟨.non, σ, H, I, rfl, h⟩
noncomputable def tIfS (c : TT) (t u : TS) : TS := fun D σ H => c σ H fun b H1 => if b = true then t D σ H1 else u D σ H1
theorem ps_if {c : Expr} {a b : List Stmt} {tc : TT} (hc : PT X c tc) (ha : PSs X a t) (hb : PSs X b u) : PS X (.If c a b pos) (tIfS tc t u) := by
  intro pins s σ H D I h
  refine wpAny_If (thn (hc pins s σ H _ I h) fun d s1 ⟨H1, I1, q1⟩ => ?_)
  cases d with
  | true => exact ha pins s1 σ H1 D I1 q1
  | false => exact hb pins s1 σ H1 D I1 q1
noncomputable def tNever : TS := fun _ _ _ => False
theorem ps_never : PS X st tNever := fun _ _ _ _ _ _ h => h.elim
end
abbrev TG := V → St → Hp → (St → Hp → Prop) → Prop
abbrev TGs := List V → St → Hp → (St → Hp → Prop) → Prop
noncomputable def PG (X : Cx) (target : Expr) (t : TG) : Prop :=
  ∀ (pins : List (Addr × Obj)) (s : Shared) (σ : St) (H : Hp) (v : V) (u : Value) (Q : St → Hp → Prop), Inv X pins σ H s → RelV v u → t v σ H Q →
    wpAny (model X.prog X.w) X.A (assign target X.env u) (fun _ s' => ∃ σ' H', Inv X pins σ' H' s' ∧ Q σ' H') X.xe s
noncomputable def PGs (X : Cx) (ts : List Expr) (t : TGs) : Prop :=
  ∀ (pins : List (Addr × Obj)) (s : Shared) (σ : St) (H : Hp) (vs : List V) (us : List Value) (Q : St → Hp → Prop), Inv X pins σ H s → Vals vs us → t vs σ H Q →
    wpAny (model X.prog X.w) X.A (assignInOrder ((assignEach ts X.env).map (·.2)) us) (fun _ s' => ∃ σ' H', Inv X pins σ' H' s' ∧ Q σ' H') X.xe s
abbrev TIp := V → V → Hp → VK → Prop
noncomputable def PIp (X : Cx) (op : Operator) (t : TIp) : Prop :=
  ∀ (pins : List (Addr × Obj)) (s : Shared) (σ : St) (H : Hp) (x y : V) (v u : Value) (Q : VK), Inv X pins σ H s → RelV x v → RelV y u → t x y H Q →
    wpAny (model X.prog X.w) X.A (inplaceOp op v u) (EP X pins σ Q) X.xe s
section
variable {X : Cx} {pos : Pos}
noncomputable def gName (i : Nat) : TG := fun v σ H Q => Q (σ.set i (some v)) H
theorem pg_name {i : Nat} {x : Str} (hN : X.N.Nodup) (hi : X.N[i]? = some x) (hx : Loc X.env.scope x) (hf : X.fn x = true ∨ X.env.scope.names.lookup x = some .local := by first | exact .inl rfl | exact .inr rfl | assumption) : PG X (.Name x pos) (gName i) := by
  intro pins s σ H v u Q I r h
  exact wpAny_assign_Name (store_ok I hN hi hx r (fun s' I' => ⟨_, H, I', h⟩) hf)
noncomputable def gNil : TGs := fun vs σ H Q => vs = [] ∧ Q σ H
noncomputable def gCons (t : TG) (u : TGs) : TGs := fun vs σ H Q => ∃ v r, vs = v :: r ∧ t v σ H fun σ' H' => u r σ' H' Q
theorem pgs_nil : PGs X [] gNil := by
  intro pins s σ H vs us Q I r h
  obtain ⟨e, h⟩ := h
  subst e
  cases r
  exact assignInOrder_nil ⟨σ, H, I, h⟩
theorem pgs_cons {e : Expr} {es : List Expr} {t : TG} {u : TGs} (h1 : PG X e t) (h2 : PGs X es u)
    (hs : (assignEach (e :: es) X.env).map (·.2) = assign e X.env :: (assignEach es X.env).map (·.2) := by rfl) : PGs X (e :: es) (gCons t u) := by
  intro pins s σ H vs us Q I r h
  obtain ⟨v, vr, e1, h⟩ := h
  subst e1
  cases r with
  | cons r rr =>
    rw [hs]
    refine assignInOrder_cons (thn (h1 pins s σ H _ _ _ I r h) fun _ s1 ⟨σ1, H1, I1, q1⟩ => ?_)
    exact h2 pins s1 σ1 H1 _ _ Q I1 rr q1
noncomputable def gTup (K : PySem.W.Frag) (n : Nat) (t : TGs) : TG := fun v σ H Q => ∃ a xs, v = .ref a ∧ SqT K H a xs ∧ xs.length = n ∧ t xs σ H Q
theorem pg_tup {es : List Expr} {k : Nat} {t : TGs} {n : Nat} (hc : X.calm = true) (h : PGs X es t)
    (hn : (assignEach es X.env).length = n := by rfl) (hst : (assignEach es X.env).findIdx? (·.1) = none := by rfl) : PG X (.Tuple es k pos) (gTup X.K n t) := by
  intro pins s σ H v u Q I r hw
  obtain ⟨a, xs, e1, hq, hl, hw⟩ := hw
  subst e1
  cases r
  obtain ⟨its, rv, ht, hz⟩ := I.tuple hq
  refine assign_Tuple_tuple (I.ok.hd hc) ht (by simp [hn, ← hl, rv.length]) hst fun h' hx => ?_
  have I1 : Inv X pins σ H { s with heap := h' } := I.kept (t' := s.toks) fun b o e => hx b o (Nat.ne_of_lt (Heap.lt_size e)) e
  exact h pins _ σ H xs _ Q I1 (by simpa using rv) hw
noncomputable def tAsg (te : TE) (g : TG) : TS := fun D σ H => te σ H fun x H1 => g x σ H1 D.nx
theorem ps_asg {tg e : Expr} {te : TE} {g : TG} (he : PE X e te) (hg : PG X tg g) (hs : swapsWithSole [tg] e pos.line X.env = pure false := by rfl) (hw : swappedStores [tg] e X.env = pure none := by rfl)
    (h1 : (assignEach [tg] X.env).map (·.2) = [assign tg X.env] := by rfl) : PS X (.Assign [tg] e pos) (tAsg te g) := by
  intro pins s σ H D I h
  refine wpAny_Assign_stores (thn (he pins s σ H _ I h) fun v s1 ⟨x, H1, I1, r1, q1⟩ => ?_) hs hw
  rw [h1]
  exact thn (hg pins s1 σ H1 x v _ I1 r1 q1) fun _ s2 q => q
theorem ps_set {i : Nat} {x : Str} {e : Expr} {te : TE} {pos' : Pos} (hN : X.N.Nodup) (hi : X.N[i]? = some x) (hx : Loc X.env.scope x) (he : PE X e te) (hs : swapsWith e (some (.Name x pos')) pos.line X.env = pure false := by rfl) (hf : X.fn x = true ∨ X.env.scope.names.lookup x = some .local := by first | exact .inl rfl | exact .inr rfl | assumption) :
    PS X (.Assign [.Name x pos'] e pos) (tAsg te (gName i)) := by
  intro pins s σ H D I h
  refine wpAny_Assign_Name (thn (he pins s σ H _ I h) fun v s1 ⟨y, H1, I1, r1, q1⟩ => ?_) hs
  exact store_ok I1 hN hi hx r1 (fun s2 I2 => ⟨_, H1, I2, q1⟩) hf
noncomputable def tAug (i : Nat) (te : TE) (ti : TIp) : TS := fun D σ H => ∃ x, σ[i]? = some (some x) ∧ te σ H fun y H1 => ti x y H1 fun z H2 => D.nx (σ.set i (some z)) H2
theorem ps_aug {i : Nat} {x : Str} {e : Expr} {te : TE} {op : Operator} {ti : TIp} {pos' : Pos} (hN : X.N.Nodup) (hi : X.N[i]? = some x) (hx : Loc X.env.scope x) (he : PE X e te) (ho : PIp X op ti) (hf : X.fn x = true ∨ X.env.scope.names.lookup x = some .local := by first | exact .inl rfl | exact .inr rfl | assumption) :
    PS X (.AugAssign (.Name x pos') op e pos) (tAug i te ti) := by
  intro pins s σ H D I h
  obtain ⟨v, e1, h⟩ := h
  obtain ⟨m, hn, hl⟩ := I.loc
  have vis : Vis X.env.scope x := by rcases hx with k | k; exact .inl k; exact .inr (.inl k)
  obtain ⟨u, r, l⟩ := hl i x v hi e1 vis
  refine wpAny_AugAssign_Name ?_
  have go : wpAny (model X.prog X.w) X.A (eval e X.env) (fun w s₂ => wpAny (model X.prog X.w) X.A (inplaceOp op u w) (fun r s₃ => wpAny (model X.prog X.w) X.A (storeName X.env x r) (fun _ => SP X pins D .next) X.xe s₃) X.xe s₂) X.xe s := by
    refine thn (he pins s σ H _ I h) fun w s1 ⟨y, H1, I1, r1, q1⟩ => ?_
    refine thn (ho pins s1 σ H1 v y u w _ I1 r r1 q1) fun z s2 ⟨zv, H2, I2, r2, q2⟩ => ?_
    exact store_ok I2 hN hi hx r2 (fun s3 I3 => ⟨_, H2, I3, q2⟩) hf
  rcases l with ⟨hk, hm⟩ | ⟨hk, c, hc, hcell⟩
  · exact wpAny_loadName_local I.ok.kind hk hn hm go
  · rcases hk with hk | hk
    · exact wpAny_loadName_cell I.ok.kind hk hc hcell go
    · rcases hx with k | k
      · have : X.env.scope.names.lookup x = some .free := hk
        rw [k] at this; cases this
      · have : X.env.scope.names.lookup x = some .free := hk
        rw [k] at this; cases this
noncomputable def ipI (f : Int → Int → Int) : TIp := fun x y H Q => ∃ i j, x = .int i ∧ y = .int j ∧ Q (.int (f i j)) H
theorem ip_add : PIp X .Add (ipI fun i j => i + j) := by
  intro pins s σ H x y v u Q I r1 r2 h
  obtain ⟨i, j, e1, e2, q⟩ := h
  subst e1; subst e2
  obtain ⟨t, rfl⟩ := r1
  obtain ⟨t', rfl⟩ := r2
  exact iadd_int ⟨.int _, H, I.tok _, ⟨_, rfl⟩, q⟩
theorem ip_sub : PIp X .Sub (ipI fun i j => i - j) := by
  intro pins s σ H x y v u Q I r1 r2 h
  obtain ⟨i, j, e1, e2, q⟩ := h
  subst e1; subst e2
  obtain ⟨t, rfl⟩ := r1
  obtain ⟨t', rfl⟩ := r2
  exact isub_int ⟨.int _, H, I.tok _, ⟨_, rfl⟩, q⟩
end
section
variable {X : Cx} {pos : Pos}
noncomputable def tWhile (c : TT) (tb : TS) : TS := fun D σ H => ∃ W : Nat → St → Hp → Prop, (∃ m, W m σ H) ∧ ∀ m σ H, W m σ H →
  c σ H fun b H1 => if b = true then ∃ N : St → Hp → Prop, (∀ σ' H', N σ' H' → ∃ m', m' < m ∧ W m' σ' H') ∧ tb { D with nx := N, ct := N, bk := D.nx } σ H1 else D.nx σ H1
theorem ps_while {c : Expr} {body : List Stmt} {tc : TT} {tb : TS} (hp : PassesOwn (model X.prog X.w) X.A X.env X.xe) (hc : PT X c tc) (hb : PSs X body tb) : PS X (.While c body [] pos) (tWhile tc tb) := by
  intro pins s σ H D I h
  obtain ⟨W, ⟨m0, w0⟩, turn⟩ := h
  refine wpAny_While (codeAny_whileLoop (fun n s' => ∃ σ' H', Inv X pins σ' H' s' ∧ W n σ' H') ?_ m0 ⟨σ, H, I, w0⟩)
  rintro n s1 ⟨σ1, H1, I1, w1⟩
  refine wpAny_passesOwn hp (thn (hc pins s1 σ1 H1 _ I1 (turn n σ1 H1 w1)) fun b s2 ⟨H2, I2, q2⟩ => ?_)
  cases b with
  | true =>
    obtain ⟨N, hN, q2⟩ := q2
    rw [if_pos rfl]
    refine wpAny_passesOwn hp (thn (hb pins s2 σ1 H2 _ I2 q2) fun f s3 q3 => ?_)
    cases f with
    | next =>
      obtain ⟨σ3, H3, I3, n3⟩ := q3
      obtain ⟨m', hm, w3⟩ := hN σ3 H3 n3
      exact ⟨m', hm, σ3, H3, I3, w3⟩
    | cont =>
      obtain ⟨σ3, H3, I3, n3⟩ := q3
      obtain ⟨m', hm, w3⟩ := hN σ3 H3 n3
      exact ⟨m', hm, σ3, H3, I3, w3⟩
    | brk => exact q3
    | ret v => exact q3
  | false =>
    rw [if_neg Bool.false_ne_true]
    exact wpAny_execs_nil ⟨σ1, H2, I2, q2⟩
end
structure It where
  go : Nat → Hp → Prop
  yld : Nat → Hp → V → Hp → Prop
  stop : Nat → Hp → Prop
noncomputable def FpOk (X : Cx) (pins : List (Addr × Obj)) (H : Hp) (b : Addr) : Prop :=
  H b = none ∧ b ≠ X.env.locals ∧ b ∉ X.fs ∧ (b ∈ X.ex ∨ X.s₀.heap.objs.size ≤ b) ∧ (∀ x c, X.env.cells.lookup x = some c → c ≠ b) ∧ ∀ p ∈ X.pn ++ pins, p.1 ≠ b
theorem Inv.fpOk {X : Cx} {pins : List (Addr × Obj)} {σ : St} {H H' : Hp} {s : Shared} {b : Addr} (I : Inv X pins σ H s) (hb : s.heap.objs.size ≤ b) (hn : H' b = none) : FpOk X pins H' b := by
  refine ⟨hn, Nat.ne_of_gt (Nat.lt_of_lt_of_le I.lt hb), I.nofs hb, .inr (Nat.le_trans I.sz hb), fun x c e z => ?_, fun p hp z => ?_⟩
  · obtain ⟨v, q⟩ := I.cell x c e
    exact absurd (Nat.lt_of_lt_of_le q.lt (by rw [z]; exact hb)) (Nat.lt_irrefl _)
  · exact absurd (Nat.lt_of_lt_of_le (Heap.lt_size (I.pin p hp).1) (by rw [z]; exact hb)) (Nat.lt_irrefl _)
structure Turn (P : Program) (w : World) (K : PySem.W.Frag) (tg : Expr) (J : It) (fp : List Addr) (it : Addr) (tn : Nat → Heap → Prop) : Prop where
  mem : it ∈ fp
  obj : ∀ i h, tn i h → ∀ b ∈ fp, ∃ o, h.get? b = some o ∧ ∀ v, o.data ≠ .cell v
  keep : ∀ i h h', tn i h → (∀ b ∈ fp, ∀ o, h.get? b = some o → h'.get? b = some o) → tn i h'
  item : ∀ (X : Cx), X.prog = P → X.w = w → X.K = K → X.calm = true → ∀ (i : Nat) (pins : List (Addr × Obj)) (s : Shared) (σ : St) (H : Hp) (E : Value → Shared → Prop), Inv X pins σ H s → (∀ b ∈ fp, FpOk X pins H b) → tn i s.heap → J.go i H →
    wpAny (model P w) X.A (pyNext (.ref it)) (fun r s1 => ∃ u, r = some u ∧
      wpAny (model P w) X.A (letOwnedTupleGo tg (.ref it) u) (fun _ s2 => ∃ x H', Inv X pins σ H' s2 ∧ RelV x u ∧ J.yld i H x H' ∧ tn (i + 1) s2.heap ∧ ∀ b ∈ fp, H' b = none) E s1) E s
  done : ∀ (X : Cx), X.prog = P → X.w = w → X.K = K → X.calm = true → ∀ (i : Nat) (pins : List (Addr × Obj)) (s : Shared) (σ : St) (H : Hp) (E : Value → Shared → Prop), Inv X pins σ H s → (∀ b ∈ fp, FpOk X pins H b) → tn i s.heap → J.stop i H →
    wpAny (model P w) X.A (pyNext (.ref it)) (fun r s1 => r = none ∧ Inv X pins σ H s1) E s
  self : ∀ (A : Around) (i : Nat) (s : Shared) (Q : Value → Shared → Prop) (E : Value → Shared → Prop), tn i s.heap → Q (.ref it) s → wpAny (model P w) A (pyIter (.ref it)) Q E s
abbrev TI := St → Hp → (It → Hp → Prop) → Prop
noncomputable def PIE (X : Cx) (pins : List (Addr × Obj)) (σ : St) (tg : Expr) (R : It → Hp → Prop) (itv : Value) (s2 : Shared) : Prop :=
  ∃ (it : Addr) (fp : List Addr) (tn : Nat → Heap → Prop) (J : It) (H' : Hp), itv = .ref it ∧ Inv X pins σ H' s2 ∧ Turn X.prog X.w X.K tg J fp it tn ∧ tn 0 s2.heap ∧ (∀ b ∈ fp, FpOk X pins H' b) ∧ R J H'
noncomputable def PI (X : Cx) (tg iter : Expr) (wi : TI) : Prop :=
  ∀ (pins : List (Addr × Obj)) (s : Shared) (σ : St) (H : Hp) (R : It → Hp → Prop), Inv X pins σ H s → wi σ H R →
    wpAny (model X.prog X.w) X.A (eval iter X.env) (fun v s1 => wpAny (model X.prog X.w) X.A (pyIter v) (PIE X pins σ tg R) X.xe s1) X.xe s
theorem go_of {M : Model} {A : Around} {E : Value → Shared → Prop} {s : Shared} {tg : Expr} {it : Addr} {u : Value} {o : Obj} {n : String} {vs : Array Value} {Q : Unit → Shared → Prop} (ho : s.heap.get? it = some o) (hc : o.cls = .type n) (hd : o.data = .fields vs)
    (hn : ["enumerate", "zip", "dict_itemiterator", "dict_reverseitemiterator", "odict_iterator", "itertools.zip_longest", "itertools.pairwise"].contains n = false) (hQ : Q () s) : wpAny M A (letOwnedTupleGo tg (.ref it) u) Q E s := by
  unfold letOwnedTupleGo
  cases tg <;> first
    | exact wpAny_pure hQ
    | (cases u <;> first
        | exact wpAny_pure hQ
        | (refine wpAny_bind (wpAny_load ho ?_)
           rw [hc, hd]
           show wpAny M A (if (["enumerate", "zip", "dict_itemiterator", "dict_reverseitemiterator", "odict_iterator", "itertools.zip_longest", "itertools.pairwise"].contains n && vs[0]? == some (rawInt _)) = true then _ else _) Q E s
           rw [if_neg (by intro h; rw [hn, Bool.false_and] at h; cases h)]
           exact wpAny_pure hQ))
noncomputable def Itl (K : PySem.W.Frag) (a : Addr) : It :=
  ⟨fun i H => ∃ xs x, SqL K H a xs ∧ xs[i]? = some x, fun i H x H' => H' = H ∧ ∀ xs, SqL K H a xs → xs[i]? = some x, fun i H => ∃ xs, SqL K H a xs ∧ xs.length ≤ i⟩
noncomputable def Itt (K : PySem.W.Frag) (a : Addr) : It :=
  ⟨fun i H => ∃ xs x, SqT K H a xs ∧ xs[i]? = some x, fun i H x H' => H' = H ∧ ∀ xs, SqT K H a xs → xs[i]? = some x, fun i H => ∃ xs, SqT K H a xs ∧ xs.length ≤ i⟩
noncomputable def Itr (lo : Int) (n : Nat) : It := ⟨fun i _ => i < n, fun i H x H' => H' = H ∧ x = .int (lo + i), fun i _ => n ≤ i⟩
theorem turn_list {P : Program} {w : World} {K : PySem.W.Frag} {tg : Expr} (a it : Addr) : Turn P w K tg (Itl K a) [it] it (fun i h => h.IsListIter it a i) where
  mem := by simp
  obj := fun i h st b hb => by
    have e : b = it := by simpa using hb
    subst e
    obtain ⟨o, e, c, d⟩ := st
    exact ⟨o, e, fun v z => by rw [d] at z; cases z⟩
  keep := fun i h h' st k => st.at fun o e => k it (by simp) o e
  item := by
    intro X hP hw hK hc i pins s σ H E I hf st hg
    subst hP hw hK
    obtain ⟨xs, x, hq, hx⟩ := hg
    obtain ⟨its, rv, p, hz⟩ := I.list hq
    obtain ⟨u, hu, ru⟩ := rv.get hx
    obtain ⟨f0, f1, f2, f3, f4, f5⟩ := hf it (by simp)
    refine wpAny_pyNext_list_item st p.isList (x := u) (by simpa using hu) fun h' st' sb => ?_
    have I1 : Inv X pins σ H { s with heap := h' } := I.turned (t' := s.toks) (fun b o hb e => (sb.2 b hb).trans e) f0 f1 f3 f4 f5
    obtain ⟨o, e, c, d⟩ := id st'
    exact ⟨u, rfl, go_of (s := { s with heap := h' }) e c d (by decide) ⟨x, H, I1, ru, ⟨rfl, fun ys hy => by rw [I.list_inj hy hq]; exact hx⟩, st', fun b hb => (hf b hb).1⟩⟩
  done := by
    intro X hP hw hK hc i pins s σ H E I hf st hg
    subst hP hw hK
    obtain ⟨xs, hq, hx⟩ := hg
    obtain ⟨its, rv, p, hz⟩ := I.list hq
    obtain ⟨f0, f1, f2, f3, f4, f5⟩ := hf it (by simp)
    have hl := rv.length
    exact wpAny_pyNext_list_end (I.ok.hd hc) st p.isList (by simp; omega) fun h' eb => ⟨rfl, I.turned (t' := s.toks) (fun b o hb e => eb b o hb e) f0 f1 f3 f4 f5⟩
  self := fun _ _ _ _ _ st h => wpAny_pyIter_listiter st h
theorem turn_tuple {P : Program} {w : World} {K : PySem.W.Frag} {tg : Expr} (a it : Addr) : Turn P w K tg (Itt K a) [it] it (fun i h => h.IsTupleIter it a i) where
  mem := by simp
  obj := fun i h st b hb => by
    have e : b = it := by simpa using hb
    subst e
    obtain ⟨o, e, c, d⟩ := st
    exact ⟨o, e, fun v z => by rw [d] at z; cases z⟩
  keep := fun i h h' st k => st.at fun o e => k it (by simp) o e
  item := by
    intro X hP hw hK hc i pins s σ H E I hf st hg
    subst hP hw hK
    obtain ⟨xs, x, hq, hx⟩ := hg
    obtain ⟨its, rv, p, hz⟩ := I.tuple hq
    obtain ⟨u, hu, ru⟩ := rv.get hx
    obtain ⟨f0, f1, f2, f3, f4, f5⟩ := hf it (by simp)
    refine wpAny_pyNext_tuple_item st (show s.heap.IsTuple a its.toArray from p) (x := u) (by simpa using hu) fun h' st' sb => ?_
    have I1 : Inv X pins σ H { s with heap := h' } := I.turned (t' := s.toks) (fun b o hb e => (sb.2 b hb).trans e) f0 f1 f3 f4 f5
    obtain ⟨o, e, c, d⟩ := id st'
    exact ⟨u, rfl, go_of (s := { s with heap := h' }) e c d (by decide) ⟨x, H, I1, ru, ⟨rfl, fun ys hy => by rw [I.tuple_inj hy hq]; exact hx⟩, st', fun b hb => (hf b hb).1⟩⟩
  done := by
    intro X hP hw hK hc i pins s σ H E I hf st hg
    subst hP hw hK
    obtain ⟨xs, hq, hx⟩ := hg
    obtain ⟨its, rv, p, hz⟩ := I.tuple hq
    obtain ⟨f0, f1, f2, f3, f4, f5⟩ := hf it (by simp)
    have hl := rv.length
    exact wpAny_pyNext_tuple_end (I.ok.hd hc) st (show s.heap.IsTuple a its.toArray from p) (by simp; omega) fun h' eb => ⟨rfl, I.turned (t' := s.toks) (fun b o hb e => eb b o hb e) f0 f1 f3 f4 f5⟩
  self := fun _ _ _ _ _ st h => wpAny_pyIter_tupleiter st h
theorem turn_range {P : Program} {w : World} {K : PySem.W.Frag} {tg : Expr} (it : Addr) (lo : Int) (n : Nat) : Turn P w K tg (Itr lo n) [it] it (fun i h => IsRangeIter h it (lo + (i : Nat) * 1) ((n : Int) - (i : Nat)) 1) where
  mem := by simp
  obj := fun i h st b hb => by
    have e : b = it := by simpa using hb
    subst e
    exact ⟨_, st, fun v z => by
      have z' : Data.fields _ = Data.cell v := z
      cases z'⟩
  keep := fun i h h' st k => k it (by simp) _ st
  item := by
    intro X hP hw hK hc i pins s σ H E I hf st hg
    subst hP hw hK
    obtain ⟨f0, f1, f2, f3, f4, f5⟩ := hf it (by simp)
    have W := Walks.range (prog := X.prog) (w := X.w) (I.ok.hd hc) it lo 1 n
    refine W.item i s _ _ hg st fun v h' tk hv st' kk => ?_
    obtain ⟨t, rfl⟩ := hv
    have I1 : Inv X pins σ H { s with heap := h', toks := tk } := I.turned (fun b o hb e => kk b o (by simpa using hb) e) f0 f1 f3 f4 f5
    refine ⟨_, rfl, go_of (s := { s with heap := h', toks := tk }) (n := "range_iterator") st' rfl rfl (by decide) ⟨.int (lo + i), H, I1, ⟨t, ?_⟩, ⟨rfl, rfl⟩, st', fun b hb => (hf b hb).1⟩⟩
    rw [Int.mul_one]
  done := by
    intro X hP hw hK hc i pins s σ H E I hf st hg
    subst hP hw hK
    obtain ⟨f0, f1, f2, f3, f4, f5⟩ := hf it (by simp)
    exact wpAny_pyNext_range_end (I.ok.hd hc) st (by have : n ≤ i := hg; omega) fun h' eb => ⟨rfl, I.turned (t' := s.toks) (fun b o hb e => eb b o hb e) f0 f1 f3 f4 f5⟩
  self := fun _ _ _ _ _ st h => wpAny_pyIter_rangeiter st h
end L2
namespace L2
open PySem PySem.Spec PyProof.Rows
section
variable {X : Cx} {tg : Expr}
theorem range_it {pins : List (Addr × Obj)} {σ : St} {H : Hp} {s : Shared} {R : It → Hp → Prop} {E : Value → Shared → Prop} {lo hi : Int} {t u v : Tok} {tk : Nat} (I : Inv X pins σ H s) (h1 : -(2 ^ 62) ≤ lo) (h2 : lo < 2 ^ 62) (h3 : -(2 ^ 62) ≤ hi) (h4 : hi < 2 ^ 62)
    (q : R (Itr lo (hi - lo).toNat) H) : wpAny (model X.prog X.w) X.A (pyIter (.ref s.heap.objs.size)) (PIE X pins σ tg R) E { s with heap := s.heap.push { cls := .type "range", data := .fields #[.int lo t, .int hi u, .int 1 v] }, toks := tk } := by
  refine wpAny_pyIter_range (IsRange.new ..) (small_one h1 h2 h3 h4) ?_
  have I1 : Inv X pins σ H { s with heap := s.heap.push { cls := .type "range", data := .fields #[.int lo t, .int hi u, .int 1 v] }, toks := tk } := I.kept fun b o e => Heap.get?_push_of_some _ e
  refine ⟨(s.heap.push { cls := .type "range", data := .fields #[.int lo t, .int hi u, .int 1 v] }).objs.size, [(s.heap.push { cls := .type "range", data := .fields #[.int lo t, .int hi u, .int 1 v] }).objs.size], _, _, H, rfl,
    I1.kept (t' := tk) fun b o e => Heap.get?_push_of_some _ e, turn_range _ lo (hi - lo).toNat, ?_, fun b hb => ?_, q⟩
  · have e1 : lo + ((0 : Nat) : Int) * 1 = lo := by simp
    have e2 : (((hi - lo).toNat : Nat) : Int) - ((0 : Nat) : Int) = Builtin.Range.rangeSize lo hi 1 := by rw [rangeSize_one]; split <;> omega
    show IsRangeIter _ _ (lo + ((0 : Nat) : Int) * 1) ((((hi - lo).toNat : Nat) : Int) - ((0 : Nat) : Int)) 1
    rw [e1, e2]
    exact Heap.get?_push_size _ rfl
  · have e : b = (s.heap.push { cls := .type "range", data := .fields #[.int lo t, .int hi u, .int 1 v] }).objs.size := by simpa using hb
    subst e
    exact I1.fpOk (Nat.le_refl _) (I1.hok.fresh (Nat.le_refl _))
noncomputable def iRng1 (ta : TA) : TI := fun σ H R => ta σ H fun vs H1 => ∃ j : Int, vs = [.int j] ∧ -(2 ^ 62) ≤ j ∧ j < 2 ^ 62 ∧ R (Itr 0 j.toNat) H1
theorem pi_range1 {a : Expr} {ta : TA} {p pos : Pos} (hg : Gl X "range") (hm : X.mg "range" = none) (ha : PA X [a] ta) (hs : starEach [a] X.env = [(false, eval a X.env)] := by rfl) : PI X tg (.Call (.Name "range" p) [a] [] pos) (iRng1 ta) := by
  intro pins s σ H R I h
  refine Call_ (ld_blt I hg hm boot_range (PyProof.Rows.callWith_type1 (thn (ha pos pins s σ H _ I h) fun us s1 ⟨vs, H1, I1, r1, q1⟩ => ?_) hs rfl))
  obtain ⟨j, e, q1, q2, q⟩ := q1
  subst e
  cases r1 with
  | cons r rr =>
    cases rr
    obtain ⟨t, rfl⟩ := r
    exact call_range_1 (range_it I1 (by omega) (by omega) q1 q2 (by simpa using q))
noncomputable def tFor (wi : TI) (g : TG) (tb : TS) : TS := fun D σ H => wi σ H fun J H1 => ∃ W : Nat → Nat → St → Hp → Prop, (∃ m, W 0 m σ H1) ∧ ∀ i m σ H, W i m σ H →
  (J.stop i H ∧ D.nx σ H) ∨ (J.go i H ∧ ∃ N : St → Hp → Prop, (∀ σ' H', N σ' H' → ∃ m', m' < m ∧ W (i + 1) m' σ' H') ∧ ∀ x H', J.yld i H x H' → g x σ H' fun σ2 H2 => tb { D with nx := N, ct := N, bk := D.nx } σ2 H2)
noncomputable def pinsAt (fp : List Addr) (h : Heap) : List (Addr × Obj) := fp.filterMap fun b => (h.get? b).map fun o => (b, o)
theorem mem_pinsAt {fp : List Addr} {h : Heap} {b : Addr} {o : Obj} (hb : b ∈ fp) (e : h.get? b = some o) : (b, o) ∈ pinsAt fp h := List.mem_filterMap.mpr ⟨b, hb, by rw [e]; rfl⟩
theorem of_pinsAt {fp : List Addr} {h : Heap} {p : Addr × Obj} (hp : p ∈ pinsAt fp h) : p.1 ∈ fp ∧ h.get? p.1 = some p.2 := by
  obtain ⟨b, hb, e⟩ := List.mem_filterMap.mp hp
  cases q : h.get? b with
  | none => rw [q] at e; cases e
  | some o =>
    rw [q] at e
    have e' : (b, o) = p := Option.some.inj e
    subst e'
    exact ⟨hb, q⟩
theorem Inv.pinned {pins : List (Addr × Obj)} {σ : St} {H : Hp} {s : Shared} {fp : List Addr} (I : Inv X pins σ H s) (hf : ∀ b ∈ fp, FpOk X pins H b) (ho : ∀ b ∈ fp, ∃ o, s.heap.get? b = some o ∧ ∀ v, o.data ≠ .cell v) : Inv X (pins ++ pinsAt fp s.heap) σ H s :=
  I.pins_of fun p hp => (List.mem_append.mp hp).elim (fun z => I.pin p (List.mem_append_right _ z)) fun z => by
    obtain ⟨hb, e⟩ := of_pinsAt z
    obtain ⟨f0, f1, f2, _⟩ := hf p.1 hb
    obtain ⟨o, e', d⟩ := ho p.1 hb
    rw [e] at e'; cases e'
    exact ⟨e, f0, f1, f2, d⟩
theorem Inv.unpinned {pins pl : List (Addr × Obj)} {σ : St} {H : Hp} {s : Shared} (I : Inv X (pins ++ pl) σ H s) : Inv X pins σ H s := I.pins_of fun p hp => I.pin p (List.mem_append_right _ (List.mem_append_left _ hp))
theorem ps_for {iter : Expr} {body : List Stmt} {wi : TI} {g : TG} {tb : TS} {pos : Pos} (hp : PassesOwn (model X.prog X.w) X.A X.env X.xe) (hc : X.calm = true) (hi : PI X tg iter wi) (hg : PG X tg g) (hb : PSs X body tb)
    (hs : ∀ x, foldedSetIterable iter X.env x = pure x := by intro _; rfl) : PS X (.For tg iter body [] pos) (tFor wi g tb) := by
  intro pins s σ H D I h
  refine wpAny_For (thn (hi pins s σ H _ I h) fun v s1 h1 => thn h1 fun itv s2 h2 => ?_) hs
  obtain ⟨it, fp, tn, J, H2, e, I2, T, st2, f2, W, ⟨m0, w0⟩, turn⟩ := h2
  subst e
  -- what stays true of the iterator's objects through the loop
  have stat : ∀ {H' : Hp}, (∀ b ∈ fp, H' b = none) → ∀ b ∈ fp, FpOk X pins H' b := fun hn b hb => ⟨hn b hb, (f2 b hb).2⟩
  refine codeAny_forLoop_any (fun n s' => ∃ i σ' H', Inv X pins σ' H' s' ∧ tn i s'.heap ∧ (∀ b ∈ fp, H' b = none) ∧ W i n σ' H') ?_ m0 ⟨0, σ, H2, I2, st2, fun b hb => (f2 b hb).1, w0⟩
  rintro n s3 ⟨i, σ3, H3, I3, st3, fr3, w3⟩
  rcases turn i n σ3 H3 w3 with ⟨stop, qn⟩ | ⟨go, N, hN, step⟩
  · refine wpAny_passesOwn hp (thn (T.done X rfl rfl rfl hc i pins s3 σ3 H3 X.xe I3 (stat fr3) st3 stop) fun r s4 ⟨hr, I4⟩ => ?_)
    subst hr
    exact wpAny_execs_nil ⟨σ3, H3, I4, qn⟩
  · refine wpAny_passesOwn hp (thn (T.item X rfl rfl rfl hc i pins s3 σ3 H3 X.xe I3 (stat fr3) st3 go) fun r s4 ⟨u, hr, h4⟩ => ?_)
    subst hr
    refine wpAny_passesOwn hp (thn h4 fun _ s5 ⟨x, H5, I5, r5, y5, st5, fr5⟩ => ?_)
    have I5' := I5.pinned (stat fr5) (T.obj _ _ st5)
    refine wpAny_passesOwn hp (thn (hg _ s5 σ3 H5 x u _ I5' r5 (step x H5 y5)) fun _ s6 ⟨σ6, H6, I6, q6⟩ => ?_)
    refine wpAny_passesOwn hp (thn (hb _ s6 σ6 H6 _ I6 q6) fun f s7 q7 => ?_)
    have again : ∀ {σ7 : St} {H7 : Hp}, Inv X (pins ++ pinsAt fp s5.heap) σ7 H7 s7 → N σ7 H7 → ∃ m, m < n ∧ ∃ i σ' H', Inv X pins σ' H' s7 ∧ tn i s7.heap ∧ (∀ b ∈ fp, H' b = none) ∧ W i m σ' H' := fun {σ7 H7} I7 n7 => by
      obtain ⟨m', hm, w7⟩ := hN σ7 H7 n7
      refine ⟨m', hm, i + 1, σ7, H7, I7.unpinned, T.keep _ _ _ st5 fun b hb o e => (I7.pin (b, o) (List.mem_append_right _ (List.mem_append_right _ (mem_pinsAt hb e)))).1, fun b hb => ?_, w7⟩
      obtain ⟨o, e, d⟩ := T.obj _ _ st5 b hb
      exact (I7.pin (b, o) (List.mem_append_right _ (List.mem_append_right _ (mem_pinsAt hb e)))).2.1
    cases f with
    | next => obtain ⟨σ7, H7, I7, n7⟩ := q7; exact again I7 n7
    | cont => obtain ⟨σ7, H7, I7, n7⟩ := q7; exact again I7 n7
    | brk => obtain ⟨σ7, H7, I7, q7⟩ := q7; exact ⟨σ7, H7, I7.unpinned, q7⟩
    | ret v => obtain ⟨x7, σ7, H7, I7, r7, q7⟩ := q7; exact ⟨x7, σ7, H7, I7.unpinned, r7, q7⟩
end
end L2
namespace L2
open PySem PySem.Spec PyProof.Rows
abbrev R2 := V → V → Hp → VK → Prop
noncomputable def OpR (X : Cx) (f : Value → Value → Sem Value) (r : R2) : Prop :=
  ∀ (pins : List (Addr × Obj)) (s : Shared) (σ : St) (H : Hp) (x y : V) (v u : Value) (Q : VK), Inv X pins σ H s → RelV x v → RelV y u → r x y H Q →
    wpAny (model X.prog X.w) X.A (f v u) (EP X pins σ Q) X.xe s
noncomputable def UnR (X : Cx) (f : Value → Sem Value) (r : V → Hp → VK → Prop) : Prop :=
  ∀ (pins : List (Addr × Obj)) (s : Shared) (σ : St) (H : Hp) (x : V) (v : Value) (Q : VK), Inv X pins σ H s → RelV x v → r x H Q →
    wpAny (model X.prog X.w) X.A (f v) (EP X pins σ Q) X.xe s
noncomputable def CallR (X : Cx) (f : Value) (r : List V → Hp → VK → Prop) : Prop :=
  ∀ (pins : List (Addr × Obj)) (s : Shared) (σ : St) (H : Hp) (xs : List V) (us : List Value) (Q : VK), Inv X pins σ H s → Vals xs us → r xs H Q →
    wpAny (model X.prog X.w) X.A (call f us) (EP X pins σ Q) X.xe s
noncomputable def TruR (X : Cx) (r : V → Hp → (Bool → Hp → Prop) → Prop) : Prop :=
  ∀ (pins : List (Addr × Obj)) (s : Shared) (σ : St) (H : Hp) (x : V) (v : Value) (Q : Bool → Hp → Prop), Inv X pins σ H s → RelV x v → r x H Q →
    wpAny (model X.prog X.w) X.A (truthy v) (TP X pins σ Q) X.xe s
noncomputable def tOp (r : R2) (ta tb : TE) : TE := fun σ H Q => ta σ H fun x H1 => tb σ H1 fun y H2 => r x y H2 Q
noncomputable def tUn (r : V → Hp → VK → Prop) (ta : TE) : TE := fun σ H Q => ta σ H fun x H1 => r x H1 Q
noncomputable def rI (C : Int → Int → Prop) (g : Int → Int → V) : R2 := fun x y H Q => ∃ i j, x = .int i ∧ y = .int j ∧ C i j ∧ Q (g i j) H
noncomputable def rI0 (g : Int → Int → V) : R2 := fun x y H Q => ∃ i j, x = .int i ∧ y = .int j ∧ Q (g i j) H
noncomputable def rU (g : Int → V) : V → Hp → VK → Prop := fun x H Q => ∃ i, x = .int i ∧ Q (g i) H
section
variable {X : Cx} {a b c : Expr} {ta tb tc : TE} {pos : Pos}
theorem binT (ha : PE X a ta) (hb : PE X b tb) {pins : List (Addr × Obj)} {s : Shared} {σ : St} {H : Hp} {R : V → V → Hp → Prop} (I : Inv X pins σ H s)
    (h : ta σ H fun x H1 => tb σ H1 fun y H2 => R x y H2) {Q : Value → Shared → Prop} {f : Value → Value → Sem Value}
    (hf : ∀ v u s2 x y H2, Inv X pins σ H2 s2 → RelV x v → RelV y u → R x y H2 → wpAny (model X.prog X.w) X.A (f v u) Q X.xe s2) :
    wpAny (model X.prog X.w) X.A (eval a X.env) (fun v s₁ => wpAny (model X.prog X.w) X.A (eval b X.env) (fun u s₂ => wpAny (model X.prog X.w) X.A (f v u) Q X.xe s₂) X.xe s₁) X.xe s := by
  refine thn (ha pins s σ H _ I h) fun v s1 ⟨x, H1, I1, r1, q1⟩ => ?_
  refine thn (hb pins s1 σ H1 _ I1 q1) fun u s2 ⟨y, H2, I2, r2, q2⟩ => ?_
  exact hf v u s2 x y H2 I2 r1 r2 q2
theorem pe_op {op : Operator} {r : R2} (ho : OpR X (binaryOp op) r) (ha : PE X a ta) (hb : PE X b tb) : PE X (.BinOp a op b pos) (tOp r ta tb) := by
  intro pins s σ H Q I h
  exact wpAny_BinOp (binT ha hb I h fun v u s2 x y H2 I2 rx ry q => ho pins s2 σ H2 x y v u Q I2 rx ry q)
theorem pe_un {op : UnaryOp} {r : V → Hp → VK → Prop} (ho : UnR X (unaryOp op) r) (ha : PE X a ta) : PE X (.UnaryOp op a pos) (tUn r ta) := by
  intro pins s σ H Q I h
  exact UnaryOp_ (thn (ha pins s σ H _ I h) fun v s1 ⟨x, H1, I1, r1, q1⟩ => ho pins s1 σ H1 x v Q I1 r1 q1)
theorem opI {f : Value → Value → Sem Value} {C : Int → Int → Prop} {g : Int → Int → Int}
    (rule : ∀ (i j : Int) (t u : Tok) (s : Shared) (Q : Value → Shared → Prop) (E : Value → Shared → Prop), C i j → Q (.int (g i j) s.toks) { s with toks := s.toks + 1 } → wpAny (model X.prog X.w) X.A (f (.int i t) (.int j u)) Q E s) :
    OpR X f (rI C fun i j => .int (g i j)) := by
  intro pins s σ H x y v u Q I rx ry h
  obtain ⟨i, j, rfl, rfl, hc, q⟩ := h
  obtain ⟨t, rfl⟩ := rx
  obtain ⟨t', rfl⟩ := ry
  exact rule i j t t' s _ _ hc ⟨.int (g i j), H, I.tok _, ⟨_, rfl⟩, q⟩
theorem opI0 {f : Value → Value → Sem Value} {g : Int → Int → Int}
    (rule : ∀ (i j : Int) (t u : Tok) (s : Shared) (Q : Value → Shared → Prop) (E : Value → Shared → Prop), Q (.int (g i j) s.toks) { s with toks := s.toks + 1 } → wpAny (model X.prog X.w) X.A (f (.int i t) (.int j u)) Q E s) :
    OpR X f (rI0 fun i j => .int (g i j)) := by
  intro pins s σ H x y v u Q I rx ry h
  obtain ⟨i, j, rfl, rfl, q⟩ := h
  obtain ⟨t, rfl⟩ := rx
  obtain ⟨t', rfl⟩ := ry
  exact rule i j t t' s _ _ ⟨.int (g i j), H, I.tok _, ⟨_, rfl⟩, q⟩
theorem opB0 {f : Value → Value → Sem Value} {g : Int → Int → Bool}
    (rule : ∀ (i j : Int) (t u : Tok) (s : Shared) (Q : Value → Shared → Prop) (E : Value → Shared → Prop), Q (.bool (g i j)) s → wpAny (model X.prog X.w) X.A (f (.int i t) (.int j u)) Q E s) :
    OpR X f (rI0 fun i j => .bl (g i j)) := by
  intro pins s σ H x y v u Q I rx ry h
  obtain ⟨i, j, rfl, rfl, q⟩ := h
  obtain ⟨t, rfl⟩ := rx
  obtain ⟨t', rfl⟩ := ry
  exact rule i j t t' s _ _ ⟨.bl (g i j), H, I, rfl, q⟩
noncomputable def CDiv (i j : Int) : Prop := 0 < j ∧ j < 1073741824
noncomputable def CMul (i j : Int) : Prop := (-(2 ^ 64) < i ∧ i < 2 ^ 64) ∨ (-(2 ^ 64) < j ∧ j < 2 ^ 64)
theorem CMul.ok {i j : Int} (h : CMul i j) : IntMulOk i j := by
  rcases h with ⟨h1, h2⟩ | ⟨h1, h2⟩
  · exact .of_left (intBits_le_64 h1 h2)
  · exact .of_right (intBits_le_64 h1 h2)
theorem op_add : OpR X (binaryOp .Add) (rI0 fun i j => .int (i + j)) := opI0 fun _ _ _ _ _ _ _ q => add_int q
theorem op_sub : OpR X (binaryOp .Sub) (rI0 fun i j => .int (i - j)) := opI0 fun _ _ _ _ _ _ _ q => sub_int q
theorem op_mul : OpR X (binaryOp .Mult) (rI CMul fun i j => .int (i * j)) := opI fun _ _ _ _ _ _ _ hc q => mul_int q hc.ok
theorem op_fdiv : OpR X (binaryOp .FloorDiv) (rI CDiv fun i j => .int (i / j)) := opI fun i j _ _ _ _ _ hc q => by
  have h1 : (0 : Int) < j := hc.1
  have h2 : j < 1073741824 := hc.2
  exact floordiv_int (by omega) (by rw [Int.fdiv_eq_ediv_of_nonneg i (by omega)]; exact q) (.inl (PyProof.noPylong_small (by omega)))
theorem op_mod : OpR X (binaryOp .Mod) (rI (fun _ j => 0 < j) fun i j => .int (i % j)) := opI fun i j _ _ _ _ _ hc q => by
  have h1 : (0 : Int) < j := hc
  exact mod_int' (by omega) (by rw [Int.fmod_eq_emod_of_nonneg i (by omega)]; exact q)
theorem unI {f : Value → Sem Value} {g : Int → Int}
    (rule : ∀ (i : Int) (t : Tok) (s : Shared) (Q : Value → Shared → Prop) (E : Value → Shared → Prop), Q (.int (g i) s.toks) { s with toks := s.toks + 1 } → wpAny (model X.prog X.w) X.A (f (.int i t)) Q E s) :
    UnR X f (rU fun i => .int (g i)) := by
  intro pins s σ H x v Q I rx h
  obtain ⟨i, rfl, q⟩ := h
  obtain ⟨t, rfl⟩ := rx
  exact rule i t s _ _ ⟨.int (g i), H, I.tok _, ⟨_, rfl⟩, q⟩
theorem un_neg : UnR X (unaryOp .USub) (rU fun i => .int (-i)) := unI fun _ _ _ _ _ q => neg_int q
end
section
variable {X : Cx} {a b c : Expr} {ta tb tc : TE} {pos : Pos}
theorem fin_bl {pins : List (Addr × Obj)} {σ : St} {H : Hp} {s : Shared} {Q : VK} {k k' : Bool} (I : Inv X pins σ H s) (q : Q (.bl k) H) (e : k = k') : EP X pins σ Q (.bool k') s := by
  subst e
  exact ⟨.bl k, H, I, rfl, q⟩
theorem op_lt : OpR X (compareOp .Lt) (rI0 fun i j => .bl (decide (i < j))) := opB0 fun _ _ _ _ _ _ _ q => lt_int q
theorem op_gt : OpR X (compareOp .Gt) (rI0 fun i j => .bl (decide (j < i))) := opB0 fun _ _ _ _ _ _ _ q => gt_int q
theorem op_in_str : OpR X (compareOp .In) (fun x y H Q => ∃ i j, x = .str i ∧ y = .str j ∧ Q (.bl (!(Builtin.Str.occurrences j i 0 j.length 1).isEmpty)) H) := by
  intro pins s σ H x y v u Q I rx ry h
  obtain ⟨i, j, rfl, rfl, q⟩ := h
  obtain ⟨t, rfl⟩ := rx
  obtain ⟨t', rfl⟩ := ry
  exact in_str (fin_bl I q rfl)
theorem op_isN : OpR X (compareOp .Is) (fun x y H Q => y = .non ∧ Q (.bl (decide (x = .non))) H) := by
  intro pins s σ H x y v u Q I rx ry h
  obtain ⟨rfl, q⟩ := h
  cases ry
  refine is_none_gen (fin_bl I q ?_)
  cases x <;> first
    | (cases rx; rfl)
    | (obtain ⟨t, rfl⟩ := rx; rfl)
theorem op_notN : OpR X (compareOp .IsNot) (fun x y H Q => y = .non ∧ Q (.bl (!decide (x = .non))) H) := by
  intro pins s σ H x y v u Q I rx ry h
  obtain ⟨rfl, q⟩ := h
  cases ry
  refine isnot_none_gen (fin_bl I q ?_)
  cases x <;> first
    | (cases rx; rfl)
    | (obtain ⟨t, rfl⟩ := rx; rfl)
theorem op_notin_str : OpR X (compareOp .NotIn) (fun x y H Q => ∃ i j, x = .str i ∧ y = .str j ∧ Q (.bl (!(!(Builtin.Str.occurrences j i 0 j.length 1).isEmpty))) H) := by
  intro pins s σ H x y v u Q I rx ry h
  obtain ⟨i, j, rfl, rfl, q⟩ := h
  obtain ⟨t, rfl⟩ := rx
  obtain ⟨t', rfl⟩ := ry
  exact notIn_str (fin_bl I q rfl)
theorem OpR.or {f : Value → Value → Sem Value} {r r' : R2} (h : OpR X f r) (h' : OpR X f r') : OpR X f (fun x y H Q => r x y H Q ∨ r' x y H Q) := by
  intro pins s σ H x y v u Q I rx ry q
  rcases q with q | q
  · exact h pins s σ H x y v u Q I rx ry q
  · exact h' pins s σ H x y v u Q I rx ry q
theorem nomark (b : Expr) {op : CmpOp} (h : op ≠ .In := by decide) (h2 : op ≠ .NotIn := by decide) : behindInMarks op b = false := by
  have e1 : (op == CmpOp.In) = false := by cases op <;> first | rfl | exact absurd rfl h
  have e2 : (op == CmpOp.NotIn) = false := by cases op <;> first | rfl | exact absurd rfl h2
  cases b <;> simp [behindInMarks, e1, e2]
theorem pe_cmpR {op : CmpOp} {r : R2} (ho : OpR X (compareOp op) r) (ha : PE X a ta) (hb : PE X b tb) (hm : behindInMarks op b = false) : PE X (.Compare a [op] [b] pos) (tOp r ta tb) := by
  intro pins s σ H Q I h
  exact wpAny_Compare1 (binT ha hb I h fun v u s2 x y H2 I2 rx ry q => ho pins s2 σ H2 x y v u Q I2 rx ry q) hm
noncomputable def tTest (t : TE) : TT := fun σ H Q => t σ H fun x H' => ∃ k, x = .bl k ∧ Q k H'
theorem pt_cmpR {op : CmpOp} {r : R2} (ho : OpR X (compareOp op) r) (ha : PE X a ta) (hb : PE X b tb) (hm : behindInMarks op b = false) : PT X (.Compare a [op] [b] pos) (tTest (tOp r ta tb)) := by
  intro pins s σ H Q I h
  refine wpAny_isTrue_Compare1 (thn (ha pins s σ H _ I h) fun v s1 ⟨x, H1, I1, r1, q1⟩ => thn (hb pins s1 σ H1 _ I1 q1) fun u s2 ⟨y, H2, I2, r2, q2⟩ =>
    thn (ho pins s2 σ H2 x y v u _ I2 r1 r2 q2) fun c s3 ⟨z, H3, I3, r3, k, e, q3⟩ => ?_) hm
  subst e
  cases r3
  exact wpAny_truthy_bool ⟨H3, I3, q3⟩
noncomputable def TruV (K : PySem.W.Frag) (x : V) (H : Hp) (k : Bool) : Prop :=
  match x with
  | .non => k = false
  | .bl b => k = b
  | .int i => k = (i != 0)
  | .str y => y.length ≤ sizeLine ∧ k = ((y.length : Int) != 0)
  | .byt y => y.size ≤ sizeLine ∧ k = ((y.size : Int) != 0)
  | .ref p => (∃ xs, SqL K H p xs ∧ k = !xs.isEmpty) ∨ (∃ xs, SqT K H p xs ∧ k = !xs.isEmpty) ∨ ∃ kvs, H p = some (.dK kvs) ∧ k = !kvs.isEmpty
  | _ => False
theorem isEmpty_kv {κ : Type} {kvs : List (κ × V)} {vs : List (κ × Value)} (r : KV kvs vs) : (!vs.isEmpty) = !kvs.isEmpty := by
  cases r <;> rfl
theorem isEmpty_of {xs : List V} {its : List Value} (r : Vals xs its) : (!its.toArray.isEmpty) = !xs.isEmpty := by
  cases r <;> simp
theorem line63 : (sizeLine : Nat) < 2 ^ 63 := by rw [sizeLine_eq]; decide
theorem tru_ok : TruR X (fun x H Q => ∃ k, TruV X.K x H k ∧ Q k H) := by
  intro pins s σ H x v Q I rx h
  obtain ⟨k, e, q⟩ := h
  have hl := line63
  have hs : sizeLine = 16777216 := sizeLine_eq
  cases x with
  | non =>
    cases rx
    have e' : k = false := e
    subst e'
    exact truthy_none ⟨H, I, q⟩
  | bl b =>
    cases rx
    have e' : k = b := e
    subst e'
    exact wpAny_truthy_bool ⟨H, I, q⟩
  | int i =>
    obtain ⟨t, rfl⟩ := rx
    have e' : k = (i != 0) := e
    subst e'
    exact PySem.P.truthy_int ⟨H, I, q⟩
  | str y =>
    obtain ⟨t, rfl⟩ := rx
    obtain ⟨hy, e'⟩ : y.length ≤ sizeLine ∧ k = ((y.length : Int) != 0) := e
    subst e'
    exact PySem.P.truthy_str (by omega) ⟨H, I.tok _, q⟩
  | byt y =>
    obtain ⟨t, rfl⟩ := rx
    obtain ⟨hy, e'⟩ : y.size ≤ sizeLine ∧ k = ((y.size : Int) != 0) := e
    subst e'
    exact PySem.W.truthy_bytes (by omega) ⟨H, I.tok _, q⟩
  | ref p =>
    cases rx
    have e' : (∃ xs, SqL X.K H p xs ∧ k = !xs.isEmpty) ∨ (∃ xs, SqT X.K H p xs ∧ k = !xs.isEmpty) ∨ ∃ kvs, H p = some (.dK kvs) ∧ k = !kvs.isEmpty := e
    rcases e' with ⟨xs, hx, e'⟩ | ⟨xs, hx, e'⟩ | ⟨kvs, hx, e'⟩
    · subst e'
      obtain ⟨its, r, pl, hz⟩ := I.list hx
      have hlen := r.length
      exact wpAny_truthy_list pl.isList (by simp only [List.size_toArray]; omega) ⟨H, I.tok _, by rw [isEmpty_of r]; exact q⟩
    · subst e'
      obtain ⟨its, r, pl, hz⟩ := I.tuple hx
      have hlen := r.length
      exact truthy_tuple pl (by simp only [List.size_toArray]; omega) ⟨H, I.tok _, by rw [isEmpty_of r]; exact q⟩
    · subst e'
      obtain ⟨hz, hS, vs, r, m⟩ : kvs.length ≤ sizeLine ∧ (p == sysModules) = false ∧ ∃ vs, KV kvs vs ∧ s.heap.DictOf (mixKind X.prog X.w) p vs := I.hok p _ hx
      have hlen : kvs.length = vs.length := Paired.length r
      exact wpAny_truthy_dict hS m (by omega) ⟨H, I.tok _, by rw [isEmpty_kv r]; exact q⟩
  | _ => exact (show False from e).elim
theorem pt_truth (ha : PE X a ta) (he : ∀ whole, isTrue a X.env whole = (do let v ← whole; standAt a.pos; holding [v] (truthy v))) :
    PT X a (fun σ H Q => ta σ H fun x H' => ∃ k, TruV X.K x H' k ∧ Q k H') := by
  intro pins s σ H Q I h
  exact isTrue_plain (thn (ha pins s σ H _ I h) fun v s1 ⟨x, H1, I1, r1, q1⟩ => tru_ok pins s1 σ H1 x v Q I1 r1 q1) (he _)
theorem op_add_str : OpR X (binaryOp .Add) (fun x y H Q => ∃ i j, x = .str i ∧ y = .str j ∧ i.length + j.length ≤ sizeLine ∧ Q (.str (i ++ j)) H) := by
  intro pins s σ H x y v u Q I rx ry h
  obtain ⟨i, j, rfl, rfl, hz, q⟩ := h
  obtain ⟨t, rfl⟩ := rx
  obtain ⟨t', rfl⟩ := ry
  exact add_str (fun t' tk => ⟨.str (i ++ j), H, I.tok _, ⟨_, rfl⟩, q⟩) hz
theorem vals1 {x : V} {us : List Value} (r : Vals [x] us) : ∃ u, us = [u] ∧ RelV x u := by
  cases r with
  | cons r1 r2 => cases r2; exact ⟨_, rfl, r1⟩
theorem vals2 {x y : V} {us : List Value} (r : Vals [x, y] us) : ∃ u w', us = [u, w'] ∧ RelV x u ∧ RelV y w' := by
  cases r with
  | cons r1 r2 =>
    cases r2 with
    | cons r3 r4 => cases r4; exact ⟨_, _, rfl, r1, r3⟩
theorem call_max2 (hc : X.calm = true) : CallR X (.builtin "max") (fun xs H Q => ∃ i j, xs = [.int i, .int j] ∧ Q (.int (if j > i then j else i)) H) := by
  intro pins s σ H xs us Q I r h
  obtain ⟨i, j, rfl, q⟩ := h
  obtain ⟨u, w', rfl, ⟨t, rfl⟩, ⟨t', rfl⟩⟩ := vals2 r
  refine max_two_ints (I.ok.hd hc) fun h' tk k => ⟨_, H, I.kept k, ?_, q⟩
  by_cases hj : j > i
  · rw [if_pos hj, if_pos hj]; exact ⟨_, rfl⟩
  · rw [if_neg hj, if_neg hj]; exact ⟨_, rfl⟩
theorem call_int1 : CallR X (.type "int") (fun xs H Q => (∃ i, xs = [.int i] ∧ Q (.int i) H) ∨ ∃ k, xs = [.bl k] ∧ Q (.int (if k then 1 else 0)) H) := by
  intro pins s σ H xs us Q I r h
  rcases h with ⟨i, rfl, q⟩ | ⟨k, rfl, q⟩
  · obtain ⟨u, rfl, t, rfl⟩ := vals1 r
    exact call_int_int ⟨.int i, H, I, ⟨_, rfl⟩, q⟩
  · obtain ⟨u, rfl, r1⟩ := vals1 r
    cases r1
    exact call_int_bool ⟨.int (if k then 1 else 0), H, I.tok _, ⟨_, rfl⟩, q⟩
theorem call_str_int : CallR X (.type "str") (fun xs H Q => ∃ i, xs = [.int i] ∧ i.natAbs.log2 < 1920 ∧ Q (.str (toString i)) H) := by
  intro pins s σ H xs us Q I r h
  obtain ⟨i, rfl, hz, q⟩ := h
  obtain ⟨u, rfl, t, rfl⟩ := vals1 r
  exact PySem.P.str_of_int hz ⟨.str _, H, I.tok _, ⟨_, rfl⟩, q⟩
end
end L2
namespace L2
open PySem PySem.Spec PyProof.Rows
structure ObjM (h : Heap) (x dx C : Addr) (mA : Str → Option Value) : Prop where
  obj : h.get? x = some (PySem.W.instObj C dx)
  ns : h.Ns1 dx mA
  ne : dx ≠ x
theorem lookIn_ns {h : Heap} {dx : Addr} {mA : Str → Option Value} (n : h.Ns1 dx mA) : ∃ od, h.get? dx = some od ∧ ∀ name, PySem.W.lookIn name od = some (mA name) := by
  obtain ⟨o, es, ep, ho, hd, hk, _, hm⟩ := n
  refine ⟨o, ho, fun name => ?_⟩
  have e := hm name
  unfold nsFind findBy at e
  rw [← Array.find?_toList] at e
  unfold PySem.W.lookIn
  rw [hd]
  dsimp only
  split
  · rename_i y q
    rw [q] at e
    exact congrArg some e
  · rename_i q
    rw [q] at e
    have a : es.toList.any (·.refKey) = false := by
      rw [List.any_eq_false]
      intro y hy
      obtain ⟨z, t, hkey⟩ := hk y (Array.mem_toList_iff.mp hy)
      simp [DictEntry.refKey, hkey]
    have a' : ¬ es.toList.any (·.refKey) = true := by rw [a]; exact Bool.false_ne_true
    rw [if_neg a']
    exact congrArg some e
theorem ObjM.look {h : Heap} {x dx C : Addr} {mA : Str → Option Value} (I : ObjM h x dx C mA) : ∃ od, PySem.W.InstAt h x (PySem.W.instObj C dx) C (some od) ∧ ∀ name, PySem.W.lookIn name od = some (mA name) :=
  let ⟨od, ho, hl⟩ := lookIn_ns I.ns
  ⟨od, ⟨I.obj, rfl, rfl, ho⟩, hl⟩
section
variable {prog : Program} {w : World} {A : Around} {E : Value → Shared → Prop} {s : Shared} {K : PySem.W.Frag} {x dx C f : Addr} {mA : Str → Option Value} {name : Str} {v : Value}
end
theorem RelO.none_of {o : Option Value} (r : RelO none o) : o = none := by
  cases o with
  | none => rfl
  | some u => exact (show False from r).elim
section
variable {P : Program} {w : World} {H H' : Hp} {h h' : Heap} {a C dx : Addr} {fs fs' : List (Str × V)}
end
structure Cls (K : PySem.W.Frag) (C : Addr) : Prop where
  pg : PySem.W.plainGet K C Str.empty = true
  hd : PySem.W.hasDictIn K C = true
  po : PySem.W.plainOver K C = true
  sa : PySem.W.findIn K (.ref C) "__setattr__" = some (some (.builtin "object.__setattr__"))
theorem Cls.get {K : PySem.W.Frag} {C : Addr} (c : Cls K C) (f : Str) : PySem.W.plainGet K C f = true := c.pg
structure Con (K : PySem.W.Frag) (C : Addr) (f : Str) (v : V) (u : Value) : Prop where
  at_ : PySem.W.findIn K (.ref C) f = some (some u)
  rel : RelV v u
  get : PySem.W.specialIn K u "__get__" = some none
  cp : PySem.W.copiedNames.contains f = false
structure Meth (K : PySem.W.Frag) (C : Addr) (m : Str) (f : Addr) : Prop where
  at_ : PySem.W.findIn K (.ref C) m = some (some (.ref f))
  fn : PySem.W.isFn K (.ref f) = true
  kp : PySem.W.keepIn K (.ref f) = true
section
variable {X : Cx} {pins : List (Addr × Obj)} {σ : St} {H : Hp} {s : Shared} {a C dx : Addr} {fs : List (Str × V)} {f : Str} {v : V} {A : Around} {E : Value → Shared → Prop}
theorem Inv.made (I : Inv X pins σ H s) : Inv X pins σ (upd (upd H s.heap.objs.size (.own (s.heap.objs.size + 1))) (s.heap.objs.size + 1) (.ins C s.heap.objs.size []))
    { s with heap := (s.heap.push PySem.W.emptyDict).push (PySem.W.instObj C s.heap.objs.size) } := by
  have e1 : (s.heap.push PySem.W.emptyDict).get? s.heap.objs.size = some PySem.W.emptyDict := Heap.get?_push_size s.heap rfl
  have e2 : ((s.heap.push PySem.W.emptyDict).push (PySem.W.instObj C s.heap.objs.size)).get? (s.heap.objs.size + 1) = some (PySem.W.instObj C s.heap.objs.size) := by
    have := Heap.get?_push_size (s.heap.push PySem.W.emptyDict) (o := PySem.W.instObj C s.heap.objs.size) rfl
    rwa [Heap.size_push] at this
  have e3 : (s.heap.push PySem.W.emptyDict).Ns s.heap.objs.size (fun _ => none) := ⟨PySem.W.emptyDict, #[], _, e1, rfl, (fun e he => absurd he (by simp)), fun _ => rfl⟩
  have I1 := I.laid (a := s.heap.objs.size) (o := .own (s.heap.objs.size + 1)) (h' := s.heap.push PySem.W.emptyDict) (t' := s.toks) (fun b u q => Heap.get?_push_of_some _ q) (Nat.le_refl _) ⟨_, e1⟩
  refine I1.laid (a := s.heap.objs.size + 1) (o := .ins C s.heap.objs.size []) (t' := s.toks) (fun b u q => Heap.get?_push_of_some _ q) (Nat.le_of_eq (Heap.size_push _ _)) ?_
  have ne : s.heap.objs.size ≠ s.heap.objs.size + 1 := Nat.ne_of_lt (Nat.lt_succ_self _)
  refine ⟨by rw [upd_ne ne, upd_same], Nat.zero_le _, ne, e2, fun _ => none, (Heap.Ns1.of_empty e3).at fun o q => Heap.get?_push_of_some _ q, fun _ => True.intro, fun y hy => absurd rfl hy⟩
end
section
variable {X : Cx} {o e value : Expr} {f : Str} {pos pos' tpos : Pos} {ta tv : TE}
end
section
variable {X : Cx} {pins : List (Addr × Obj)} {σ : St} {H : Hp} {s : Shared} {A : Around} {E : Value → Shared → Prop} {Q : Value → Shared → Prop} {c : Value} {b : Bool}
inductive TyOf (K : PySem.W.Frag) (H : Hp) : V → Value → Prop where
  | non : TyOf K H .non (.type "NoneType")
  | bl (x : Bool) : TyOf K H (.bl x) (.type "bool")
  | int (i : Int) : TyOf K H (.int i) (.type "int")
  | str (x : Str) : TyOf K H (.str x) (.type "str")
  | flt (x : UInt64) : TyOf K H (.flt x) (.type "float")
  | lst {a : Addr} {xs : List V} (e : H a = some (.lst xs)) : TyOf K H (.ref a) (.type "list")
  | frz {a : Addr} {o : Obj} {xs : List V} (e : H a = some (.frz o (.lst xs))) : TyOf K H (.ref a) (.type "list")
  | tup {a : Addr} {xs : List V} (e : H a = some (.tup xs)) : TyOf K H (.ref a) (.type "tuple")
  | dK {a : Addr} {kvs : List (Key × V)} (e : H a = some (.dK kvs)) : TyOf K H (.ref a) (.type "dict")
  | dT {a : Addr} {kvs : List (List Key × V)} (e : H a = some (.dT kvs)) : TyOf K H (.ref a) (.type "dict")
  | ins {a C dx : Addr} {fs : List (Str × V)} (e : H a = some (.ins C dx fs)) (cl : Cls K C) (ha : PySem.W.findIn K (.ref C) "__class__" = some (some (.builtin "object.__class__")))
      (hn : PySem.W.specialIn K (.builtin "object.__class__") "__get__" = some (some (.builtin "getset_descriptor.__get__"))) (htk : PySem.W.takesIn K (.builtin "object.__class__") = some true)
      (hm : PySem.W.mroIn K C (.type "object") = some true) : TyOf K H (.ref a) (.ref C)
end
end L2
namespace L2
open PySem PySem.Spec PyProof.Rows
structure Room (k : Nat) (A : Around) : Prop where
  hd : A.handled = none
  dp : A.depth + 3 * k + 5 < recursionLimit
  un : A.units + 16 * k + 200 < cLine
theorem Room.mono {j k : Nat} {A : Around} (r : Room k A) (h : j ≤ k) : Room j A := ⟨r.hd, by have := r.dp; omega, by have := r.un; omega⟩
theorem Room.deeper {k : Nat} {A : Around} (r : Room (k + 1) A) (env : Env) : Room k (A.deeper env) :=
  ⟨r.hd, by have := r.dp; show A.depth + 1 + 3 * k + 5 < _; omega, by have := r.un; show A.units + 3 + 16 * k + 200 < _; omega⟩
theorem Room.in1 {k : Nat} {A : Around} (r : Room (k + 1) A) : Room k A.in1 :=
  ⟨r.hd, by have := r.dp; show A.depth + 3 * k + 5 < _; omega, by have := r.un; show A.units + 1 + 16 * k + 200 < _; omega⟩
theorem make_depth {A : Around} {C : Addr} {us : List Value} {kw : List (Str × Value)} : (A.under (.builtin "type.__call__" ⟨.ref C :: us, kw⟩)).depth = A.depth + 1 := by
  first | rfl | simp [Around.under, Code.weight, Code.isCreation, Code.isGuard, Code.isCaller, Code.frames, Code.isFrame, guardIds]
theorem make_units {A : Around} {C : Addr} {us : List Value} {kw : List (Str × Value)} : (A.under (.builtin "type.__call__" ⟨.ref C :: us, kw⟩)).units = A.units + 1 := by
  first | rfl | simp [Around.under, Code.cUnits, Code.frames, Code.isFrame]
theorem Room.make {k : Nat} {A : Around} (r : Room (k + 1) A) (C : Addr) (us : List Value) (kw : List (Str × Value)) : Room k (A.under (.builtin "type.__call__" ⟨.ref C :: us, kw⟩)) :=
  ⟨r.hd, by have := r.dp; rw [make_depth]; omega, by have := r.un; rw [make_units]; omega⟩
theorem Room.depth {k : Nat} {A : Around} (r : Room k A) : A.depth < recursionLimit := by have := r.dp; omega
theorem Room.units {k : Nat} {A : Around} (r : Room k A) : A.units + 64 < cLine := by have := r.un; omega
noncomputable def tNil : TA := fun _ H Q => Q [] H
noncomputable def tCons (ta : TE) (tr : TA) : TA := fun σ H Q => ta σ H fun x H1 => tr σ H1 fun xs H2 => Q (x :: xs) H2
section
variable {X : Cx} {e : Expr} {es : List Expr} {te : TE} {t : TA} {pos : Pos}
theorem pa_nil : PA X [] tNil := fun _ _ _ _ H Q I h => Calls.spliced_nil ⟨[], H, I, .nil, h⟩
theorem pa_cons (ha : PE X e te) (hr : PA X es t) (hs : starEach (e :: es) X.env = (false, eval e X.env) :: starEach es X.env := by rfl) : PA X (e :: es) (tCons te t) := by
  intro pos pins s σ H Q I h
  rw [hs]
  show wpAny _ _ (spliced ((false, eval e X.env) :: backTo pos (starEach es X.env))) _ _ s
  refine Calls.spliced_cons (thn (ha pins s σ H _ I h) fun u s1 ⟨x, H1, I1, r1, q1⟩ => ?_)
  exact thn (hr pos pins s1 σ H1 _ I1 q1) fun us s2 ⟨xs, H2, I2, r2, q2⟩ => ⟨x :: xs, H2, I2, .cons r1 r2, q2⟩
noncomputable def tTup (t : TA) : TE := fun σ H Q => t σ H fun xs H1 => xs.length ≤ sizeLine ∧ ∀ p, H1 p = none → Q (.ref p) (upd H1 p (.tup xs))
noncomputable def tLst (t : TA) : TE := fun σ H Q => t σ H fun xs H1 => xs.length ≤ sizeLine ∧ ∀ p, H1 p = none → Q (.ref p) (upd H1 p (.lst xs))
theorem pe_tup {x1} (h : PA X es t) : PE X (.Tuple es x1 pos) (tTup t) := by
  intro pins s σ H Q I hq
  refine wpAny_Tuple_spliced (thn (h pos pins s σ H _ I hq) fun us s1 ⟨xs, H1, I1, r, z, q⟩ => ⟨by rw [← r.length]; exact z, ?_⟩)
  have hf : H1 s1.heap.objs.size = none := I1.hok.fresh (Nat.le_refl _)
  refine ⟨.ref s1.heap.objs.size, upd H1 s1.heap.objs.size (.tup xs), I1.laid (t' := s1.toks) (fun b u e => Heap.get?_push_of_some _ e) (Nat.le_refl _) ?_, rfl, q _ hf⟩
  exact ⟨z, us, r, ⟨_, Heap.get?_push_size _ rfl, rfl, _, rfl⟩⟩
theorem pe_lst (h : PA X es t) : PE X (.List es pos) (tLst t) := by
  intro pins s σ H Q I hq
  refine wpAny_List_spliced (thn (h pos pins s σ H _ I hq) fun us s1 ⟨xs, H1, I1, r, z, q⟩ => ⟨by rw [← r.length]; exact z, ?_⟩)
  have hf : H1 s1.heap.objs.size = none := I1.hok.fresh (Nat.le_refl _)
  refine ⟨.ref s1.heap.objs.size, upd H1 s1.heap.objs.size (.lst xs), I1.laid (t' := s1.toks) (fun b u e => Heap.get?_push_of_some _ e) (Nat.le_refl _) ?_, rfl, q _ hf⟩
  exact ⟨z, us, 0, r, Heap.get?_push_size _ rfl⟩
end
abbrev Sp := List V → Hp → VK → XK → Prop
abbrev CXT := List Env → Hp → Shared → XK → Value → Shared → Prop
structure Env0 (P : Program) (w : World) (K : PySem.W.Frag) (mg : Str → Option Value) (base : Heap) (A : Around) (outer : List Env) (s : Shared) (H : Hp) : Prop where
  frames : A.frames = some outer
  mod : Mod K mg base
  bs : ∀ b o, base.get? b = some o → s.heap.get? b = some o ∧ H b = none
  bsz : base.objs.size ≤ s.heap.objs.size
  funs : s.heap.FunFrames base outer
  frf : ∀ b ∈ frs outer, H b = none
  hok : HOk P w H s.heap
  bare : AllBare s.gens
noncomputable def CE (outer : List Env) (P : Program) (w : World) (H : Hp) (s : Shared) (Q : VK) (u : Value) (s' : Shared) : Prop :=
  ∃ v H', s'.os = s.os ∧ AllBare s'.gens ∧ Un (frs outer) [] H H' s.heap s'.heap ∧ HOk P w H' s'.heap ∧ RelV v u ∧ Q v H'
noncomputable def CR (CX : CXT) (outer : List Env) (P : Program) (w : World) (H : Hp) (s : Shared) (Q : VK) (E : XK) (r : Result) (s' : Shared) : Prop :=
  match r with
  | .ok (.ret u) => CE outer P w H s Q u s'
  | .ok _ => False
  | .error e => CX outer H s E e s'
structure FnOk (P : Program) (w : World) (K : PySem.W.Frag) (mg : Str → Option Value) (base : Heap) (CX : CXT) (k : Nat) (f : Addr) (fd : FuncData) (ps : List Str) (sp : Sp) : Prop where
  len : ∀ vs H Q E, sp vs H Q E → vs.length = ps.length
  run : ∀ (A : Around) (outer : List Env) (s : Shared) (H : Hp) (args : Args) (us : List Value) (vs : List V) (Q : VK) (E : XK), Room k A → Env0 P w K mg base A outer s H → BindsTo s fd args (ps.zip us) → Vals vs us → sp vs H Q E →
    codeAny (model P w) A (.call (.ref f) args) (CR CX outer P w H s Q E) s
theorem FnOk.mono {P : Program} {w : World} {K : PySem.W.Frag} {mg : Str → Option Value} {base : Heap} {CX : CXT} {j k : Nat} {f : Addr} {fd : FuncData} {ps : List Str} {sp : Sp} (F : FnOk P w K mg base CX j f fd ps sp) (h : j ≤ k) :
    FnOk P w K mg base CX k f fd ps sp := ⟨F.len, fun A outer s H args us vs Q E hr => F.run A outer s H args us vs Q E (hr.mono h)⟩
theorem FnOk.imp {P : Program} {w : World} {K : PySem.W.Frag} {mg : Str → Option Value} {base : Heap} {CX : CXT} {k : Nat} {f : Addr} {fd : FuncData} {ps : List Str} {sp sp' : Sp} (F : FnOk P w K mg base CX k f fd ps sp)
    (h : ∀ vs H Q E, sp' vs H Q E → sp vs H Q E) : FnOk P w K mg base CX k f fd ps sp' :=
  ⟨fun vs H Q E q => F.len vs H Q E (h _ _ _ _ q), fun A outer s H args us vs Q E hr he hb hv hs => F.run A outer s H args us vs Q E hr he hb hv (h _ _ _ _ hs)⟩
theorem Env0.make {P : Program} {w : World} {K : PySem.W.Frag} {mg : Str → Option Value} {base : Heap} {A : Around} {outer : List Env} {s : Shared} {H : Hp} (e : Env0 P w K mg base A outer s H) (C : Addr) (us : List Value) (kw : List (Str × Value)) :
    Env0 P w K mg base (A.under (.builtin "type.__call__" ⟨.ref C :: us, kw⟩)) outer s H := ⟨by first | exact e.frames | (simpa [Around.under, Code.envs, Code.isFrame, pushEnvs] using e.frames), e.mod, e.bs, e.bsz, e.funs, e.frf, e.hok, e.bare⟩
theorem Env0.in1 {P : Program} {w : World} {K : PySem.W.Frag} {mg : Str → Option Value} {base : Heap} {A : Around} {outer : List Env} {s : Shared} {H : Hp} (e : Env0 P w K mg base A outer s H) :
    Env0 P w K mg base A.in1 outer s H := ⟨e.frames, e.mod, e.bs, e.bsz, e.funs, e.frf, e.hok, e.bare⟩
section
variable {X : Cx} {pins : List (Addr × Obj)} {σ : St} {H : Hp} {s s' : Shared}
theorem Inv.env0 (I : Inv X pins σ H s) : Env0 X.prog X.w X.K X.mg X.base X.A X.stack s H :=
  ⟨I.ok.frames, I.ok.mod, I.bs, Nat.le_trans I.ok.bsz I.sz, I.stack, I.stkFree, I.hok, I.bare⟩
theorem Inv.after {Q : VK} {u : Value} (I : Inv X pins σ H s) (h : CE X.stack X.prog X.w H s Q u s') : EP X pins σ Q u s' := by
  obtain ⟨v, H', os, bare, un, hok, r, q⟩ := h
  obtain ⟨hh, g, d, t, os'⟩ := s'
  obtain rfl : os' = s.os := os
  exact ⟨v, H', I.call (h' := hh) (g' := g) (d' := d) (t' := t) (ch := []) un hok bare (fun b z => absurd z (by simp)), r, q⟩
end
noncomputable def tCall (sp : Sp) (dvs : List V) (E : XK) (t : TA) : TE := fun σ H Q => t σ H fun vs H1 => sp (vs ++ dvs) H1 Q E
noncomputable def Binds (K : PySem.W.Frag) (fd : FuncData) (ps : List Str) (ds : List Value) : Prop :=
  ∀ (s : Shared) (us : List Value), K.In s.heap → (us ++ ds).length = ps.length → BindsTo s fd ⟨us, []⟩ (ps.zip (us ++ ds))
theorem Binds.all {K : PySem.W.Frag} {fd : FuncData} {ps : List Str} (h : ∀ us : List Value, us.length = ps.length → bindArgs fd ⟨us, []⟩ = pure (ps.zip us)) : Binds K fd ps [] := fun s us _ hl => by
  rw [List.append_nil] at hl ⊢
  exact .of_eq (h us hl)
noncomputable def Passes (CX : CXT) (X : Cx) (E : XK) : Prop := ∀ (pins : List (Addr × Obj)) (σ : St) (H : Hp) (s : Shared) (e : Value) (s' : Shared), Inv X pins σ H s → CX X.stack H s E e s' → X.xe e s'
section
variable {X : Cx} {CX : CXT} {k : Nat} {f C : Addr} {fd : FuncData} {ps : List Str} {sp : Sp} {dvs : List V} {ds : List Value} {E : XK} {x m : Str} {p pos apos : Pos} {e o : Expr} {es : List Expr} {ta : TE} {t : TA}
theorem run_fn {pins : List (Addr × Obj)} {σ : St} {H : Hp} {s : Shared} {Q : VK} {us : List Value} {vs : List V} (F : FnOk X.prog X.w X.K X.mg X.base CX k f fd ps sp) (hr : Room k X.A) (hb : Binds X.K fd ps ds) (hd : Vals dvs ds) (hx : Passes CX X E)
    (I : Inv X pins σ H s) (r : Vals vs us) (h : sp (vs ++ dvs) H Q E) : wpAny (model X.prog X.w) X.A (call (.ref f) us) (EP X pins σ Q) X.xe s := by
  have r2 : Vals (vs ++ dvs) (us ++ ds) := r.append hd
  have hl : (us ++ ds).length = ps.length := by rw [← r2.length]; exact F.len _ _ _ _ h
  refine wpAny_call (codeAny_mono (F.run X.A X.stack s H ⟨us, []⟩ (us ++ ds) (vs ++ dvs) Q E hr I.env0 (hb s us I.kIn hl) r2 h) fun r s' hq => ?_)
  cases r with
  | error e => exact hx pins σ H s e s' I hq
  | ok fl =>
    cases fl with
    | ret u => exact I.after hq
    | next => exact False.elim hq
    | brk => exact False.elim hq
    | cont => exact False.elim hq
theorem pe_call (F : FnOk X.prog X.w X.K X.mg X.base CX k f fd ps sp) (hr : Room k X.A) (hg : Gl X x) (hm : X.mg x = some (.ref f)) (hk : PySem.W.keepIn X.K (.ref f) = true) (hb : Binds X.K fd ps ds) (hd : Vals dvs ds) (hx : Passes CX X E)
    (ha : PA X (e :: es) t) (hdb : (x == ("__debug__" : Str)) = false := by decide) (he : starEach (e :: es) X.env = (false, eval e X.env) :: starEach es X.env := by rfl) (hpl : (backTo pos (starEach es X.env)).any (·.1) = false := by rfl) :
    PE X (.Call (.Name x p) (e :: es) [] pos) (tCall sp dvs E t) := by
  intro pins s σ H Q I h
  refine wpAny_Call_Name_kw (ld_glob I hg hm ?_ hdb)
  refine PySem.W.callWith_K (h₀ := X.base) I.ok.mod.kin hk (thn (ha pos pins s σ H _ I h) fun us s1 ⟨vs, H1, I1, r, q⟩ => ⟨I1.kIn, ?_⟩) he hpl
  exact run_fn F hr hb hd hx I1 r q
structure Mk (K : PySem.W.Frag) (C f : Addr) : Prop where
  makes : PySem.W.makesIn K C = true
  init : PySem.W.findIn K (.ref C) "__init__" = some (some (.ref f))
  fn : PySem.W.isFn K (.ref f) = true
  kp : PySem.W.keepIn K (.ref C) = true
end
section
variable {X : Cx} {CX : CXT} {k : Nat} {f C : Addr} {fd : FuncData} {ps ks : List Str} {sp : Sp} {E : XK} {x m : Str} {p pos apos kpos : Pos} {e o : Expr} {es : List Expr} {kws : List Keyword} {te ta : TE} {t tk : TA} {nm : Option Str}
structure KBinds (K : PySem.W.Frag) (fd : FuncData) (ps ks : List Str) (g : List Value → List Value → List Value) (gV : List V → List V → List V) : Prop where
  to : ∀ (s : Shared) (us ws : List Value), K.In s.heap → (g us ws).length = ps.length → BindsTo s fd ⟨us, ks.zip ws⟩ (ps.zip (g us ws))
  rel : ∀ {vs : List V} {us : List Value} {zs : List V} {ws : List Value}, Vals vs us → Vals zs ws → Vals (gV vs zs) (g us ws)
variable {g : List Value → List Value → List Value} {gV : List V → List V → List V}
end
structure FnScope (N P : List Str) (sc : Scope) : Prop where
  kind : sc.kind = .function
  co : sc.isCoroutine = false
  gen : sc.isGenerator = false
  nd : N.Nodup
  pre : N.take P.length = P
  par : ∀ x ∈ P, sc.names.lookup x = some .local ∨ sc.names.lookup x = some .cell
  nofree : ∀ y ∈ sc.names, y.2 ≠ .free
theorem bindL_out {kindOf : Str → Option NameKind} {x : Str} : ∀ {binds : List (Str × Value)} {m : Str → Option Value}, (∀ v, (x, v) ∉ binds) → bindL kindOf binds m x = m x
  | [], _, _ => rfl
  | (n, v) :: r, m, h => by
    unfold bindL
    rw [bindL_out fun w hw => h w (List.mem_cons_of_mem _ hw)]
    split
    · have : x ≠ n := by rintro rfl; exact h v List.mem_cons_self
      simp [this]
    · rfl
theorem bindC_out {kindOf : Str → Option NameKind} {x : Str} : ∀ {binds : List (Str × Value)} {m : Str → Option Value}, (∀ v, (x, v) ∉ binds) → bindC kindOf binds m x = m x
  | [], _, _ => rfl
  | (n, v) :: r, m, h => by
    unfold bindC
    rw [bindC_out fun w hw => h w (List.mem_cons_of_mem _ hw)]
    split
    · rfl
    · have : x ≠ n := by rintro rfl; exact h v List.mem_cons_self
      simp [this]
theorem bindL_get {kindOf : Str → Option NameKind} {x : Str} {v : Value} : ∀ {P : List Str} {vs : List Value} {i : Nat} {m : Str → Option Value}, P.Nodup → P[i]? = some x → vs[i]? = some v → kindOf x = some .local →
    bindL kindOf (P.zip vs) m x = some v
  | [], _, _, _, _, h, _, _ => by simp at h
  | _ :: _, [], _, _, _, _, h, _ => by simp at h
  | p :: P, w :: vs, 0, m, nd, h1, h2, hk => by
    simp at h1 h2; subst h1; subst h2
    show bindL kindOf ((p, w) :: P.zip vs) m p = _
    unfold bindL
    rw [bindL_out fun v hv => (List.nodup_cons.mp nd).1 (List.of_mem_zip hv).1, if_pos hk]
    simp
  | p :: P, w :: vs, i + 1, m, nd, h1, h2, hk => by
    show bindL kindOf ((p, w) :: P.zip vs) m x = _
    unfold bindL
    exact bindL_get (i := i) (List.nodup_cons.mp nd).2 (by simpa using h1) (by simpa using h2) hk
theorem bindC_get {kindOf : Str → Option NameKind} {x : Str} {v : Value} : ∀ {P : List Str} {vs : List Value} {i : Nat} {m : Str → Option Value}, P.Nodup → P[i]? = some x → vs[i]? = some v → kindOf x ≠ some .local →
    bindC kindOf (P.zip vs) m x = some v
  | [], _, _, _, _, h, _, _ => by simp at h
  | _ :: _, [], _, _, _, _, h, _ => by simp at h
  | p :: P, w :: vs, 0, m, nd, h1, h2, hk => by
    simp at h1 h2; subst h1; subst h2
    show bindC kindOf ((p, w) :: P.zip vs) m p = _
    unfold bindC
    rw [bindC_out fun v hv => (List.nodup_cons.mp nd).1 (List.of_mem_zip hv).1, if_neg hk]
    simp
  | p :: P, w :: vs, i + 1, m, nd, h1, h2, hk => by
    show bindC kindOf ((p, w) :: P.zip vs) m x = _
    unfold bindC
    exact bindC_get (i := i) (List.nodup_cons.mp nd).2 (by simpa using h1) (by simpa using h2) hk
noncomputable def start (N : List Str) (vs : List V) : St := vs.map some ++ List.replicate (N.length - vs.length) none
noncomputable def cxOf (CX : CXT) (P : Program) (w : World) (K : PySem.W.Frag) (mg : Str → Option Value) (base : Heap) (N : List Str) (qual : Str) (scope : Scope) (f : Addr) (cd : Value) (A : Around) (outer : List Env) (s : Shared) (H : Hp) (E : XK) : Cx where
  prog := P
  w := w
  K := K
  mg := mg
  base := base
  A := A.deeper (envOfC qual scope s.heap.objs.size f cd)
  N := N
  s₀ := s
  H₀ := H
  env := envOfC qual scope s.heap.objs.size f cd
  outer := outer
  stack := envOfC qual scope s.heap.objs.size f cd :: outer
  ex := []
  calm := true
  fn := fun _ => true
  pn := []
  xe := fun e s' => wpAny (model P w) (A.deeper (envOfC qual scope s.heap.objs.size f cd)) (leaving (envOfC qual scope s.heap.objs.size f cd) e) (fun _ s'' => CX outer H s E e s'') (fun e' s'' => CX outer H s E e' s'') s'
theorem cell_has {sc : Scope} {n : Nat} {x : Str} (h : sc.names.lookup x = some .cell) : ∃ c, (cellsFrom n sc.names []).lookup x = some c := by
  have q := PySem.W.cellsFrom_some sc.names n [] (.inl h)
  exact Option.isSome_iff_exists.mp q
theorem inv_start {CX : CXT} {P : Program} {w : World} {K : PySem.W.Frag} {mg : Str → Option Value} {base : Heap} {N ps : List Str} {qual : Str} {scope : Scope} {f : Addr} {cd : Value} {A : Around} {outer : List Env} {s s1 : Shared} {H : Hp} {E : XK} {us : List Value} {vs : List V}
    (S : FnScope N ps scope) (hd : A.handled = none) (e0 : Env0 P w K mg base A outer s H) (hl : vs.length = ps.length) (r : Vals vs us)
    (x : InCallC s s.heap.objs.size (bindL (envOfC qual scope s.heap.objs.size f cd).kindOf (ps.zip us) fun _ => none) (cellsFrom (s.heap.objs.size + 1) scope.names []) (bindC (envOfC qual scope s.heap.objs.size f cd).kindOf (ps.zip us) fun _ => none) s1) :
    Inv (cxOf CX P w K mg base N qual scope f cd A outer s H E) [] (start N vs) H s1 := by
  have hpl : ps.length ≤ N.length := by have := congrArg List.length S.pre; rw [List.length_take] at this; omega
  obtain ⟨h1, tk, rfl, hk⟩ := x.done
  have noA : ∀ b : Addr, b ∉ (cxOf CX P w K mg base N qual scope f cd A outer s H E).ex := fun b z => absurd (show b ∈ ([] : List Addr) from z) (by simp)
  refine ⟨⟨e0.mod, S.kind, rfl, rfl, Nat.le_refl _, fun y z c h1 h2 => ?_, fun y hy => ?_, fun y c _ h => ?_, fun _ => hd, Around.frames_deeper e0.frames, .inr ⟨rfl, rfl⟩, fun b z => absurd z (noA b), e0.bs, e0.bsz, fun b _ _ => noA b, fun b z => absurd z (noA b), e0.funs, e0.frf⟩,
    rfl, e0.bare, Un.kept hk, ⟨_, x.toInCall.ns, fun i y v h1 h2 h3 => ?_⟩, fun y c h => ⟨_, x.cell y c h⟩, e0.hok.fresh (Nat.le_refl _), fun y c h => ?_, fun p hp => absurd (show p ∈ ([] : List (Addr × Obj)) from hp) (by simp), e0.hok.kept hk, ?_⟩
  · exact name_of_addr x.apart (PySem.mem_of_lookup h1) (PySem.mem_of_lookup h2)
  · have hy : scope.names.lookup y = some .cell ∨ scope.names.lookup y = some .free := hy
    rcases hy with hy | hy
    · exact cell_has hy
    · exact absurd rfl (S.nofree _ (PySem.mem_of_lookup hy))
  · exact Nat.le_of_lt (x.above y c (PySem.mem_of_lookup h))
  · have hi : i < vs.length := by
      unfold start at h2
      by_cases hi : i < vs.length
      · exact hi
      · rw [List.getElem?_append_right (by simpa using hi)] at h2
        rw [List.getElem?_replicate] at h2
        split at h2 <;> cases h2
    have ha : vs[i]? = some v := by
      unfold start at h2
      rw [List.getElem?_append_left (by simpa using hi), List.getElem?_map] at h2
      cases e : vs[i]? with
      | none => rw [e] at h2; cases h2
      | some a => rw [e] at h2; cases h2; rfl
    obtain ⟨u, hu, rv⟩ := r.get ha
    have hp : ps[i]? = some y := by
      rw [← S.pre, List.getElem?_take_of_lt (by omega)]; exact h1
    have ndP : ps.Nodup := by rw [← S.pre]; exact S.nd.sublist (List.take_sublist _ _)
    refine ⟨u, rv, ?_⟩
    rcases S.par y (List.mem_of_getElem? hp) with k | k
    · exact .inl ⟨k, bindL_get ndP hp hu k⟩
    · obtain ⟨c, e⟩ := cell_has (n := s.heap.objs.size + 1) k
      refine .inr ⟨.inl k, c, e, ?_⟩
      have q := x.cell y c e
      rw [bindC_get ndP hp hu (by show scope.names.lookup y ≠ _; rw [k]; decide)] at q
      exact q
  · exact e0.hok.fresh (Nat.le_of_lt (x.above y c (PySem.mem_of_lookup h)))
  · unfold start
    show _ = N.length
    rw [List.length_append, List.length_map, List.length_replicate]
    omega
theorem fn_of {CX : CXT} {P : Program} {w : World} {K : PySem.W.Frag} {mg : Str → Option Value} {base : Heap} {k : Nat} {f : Addr} {name qual : Str} {params : Arguments} {body : List Stmt} {scope : Scope} {dV kV doc pm cdv ct oc : Value} {an od : Option Addr}
    {osl : Array (Option Value)} {N ps : List Str} {sp : Sp} (lk : K.lookup f = some ⟨oc, od, .func (PySem.W.fnOf name qual params body scope dV kV doc pm an cdv ct), osl⟩) (hcd : PySem.W.codeIn K cdv qual = true) (S : FnScope N ps scope)
    (len : ∀ vs H Q E, sp vs H Q E → vs.length = ps.length)
    (hbody : ∀ (A : Around) (outer : List Env) (s : Shared) (H : Hp) (vs : List V) (Q : VK) (E : XK), Room k (A.deeper (envOfC qual scope s.heap.objs.size f cdv)) → sp vs H Q E →
      ∃ t, PSs (cxOf CX P w K mg base N qual scope f cdv A outer s H E) body t ∧ t { nx := fun _ H' => Q .non H', rt := Q } (start N vs) H) :
    FnOk P w K mg base CX (k + 1) f (PySem.W.fnOf name qual params body scope dV kV doc pm an cdv ct) ps sp := by
  refine ⟨len, fun A outer s H args us vs Q E hr e0 hb r hsp => ?_⟩
  have hl := len _ _ _ _ hsp
  have KX : K.In s.heap := e0.mod.kin.keeps fun b o e => (e0.bs b o e).1
  have lim : s.heap.NoLimit := e0.mod.nolimit.keeps fun b o e => (e0.bs b o e).1
  have hkind : ∀ y ∈ ps.zip us, scope.names.lookup y.1 = some .local ∨ (scope.names.lookup y.1 = some .cell ∧ ((cellsFrom (s.heap.objs.size + 1) scope.names []).lookup y.1).isSome = true) := fun ⟨n, v⟩ hy => by
    rcases S.par n (List.of_mem_zip hy).1 with q | q
    · exact .inl q
    · exact .inr ⟨q, PySem.W.cellsFrom_some _ _ _ (.inl q)⟩
  refine codeAny_call_function hr.depth (KX _ _ lk) rfl S.co S.gen rfl (PySem.W.codeRec_of KX hcd) (hb _ _ _ _ ?_)
  refine wpAny_newFunctionEnv_cells S.kind hkind fun env he s1 x => ?_
  subst he
  refine ⟨lim.keeps x.toInCall.keep, codeAny_func ?_⟩
  obtain ⟨t, ht, hq⟩ := hbody A outer s H vs Q E (hr.deeper _) hsp
  have I : Inv (cxOf CX P w K mg base N qual scope f cdv A outer s H E) [] (start N vs) H s1 := inv_start S hr.hd e0 hl r x
  refine wpAny_mono (ht [] s1 (start N vs) H _ I hq) (fun fl s' hs => ?_) fun e s' hs => hs
  have fin : ∀ {σ' : St} {H' : Hp} {v : V} {u : Value}, Inv (cxOf CX P w K mg base N qual scope f cdv A outer s H E) [] σ' H' s' → RelV v u → Q v H' → CE outer P w H s Q u s' :=
    fun {σ' H' v u} J rv q => ⟨v, H', J.os, J.bare, J.base, J.hok, rv, q⟩
  cases fl with
  | ret u =>
    obtain ⟨v, σ', H', J, rv, q⟩ := hs
    exact fin J rv q
  | next =>
    obtain ⟨σ', H', J, q⟩ := hs
    exact fin (v := V.non) (u := Value.none) J rfl q
  | brk =>
    obtain ⟨_, _, _, q⟩ := hs
    exact False.elim q
  | cont =>
    obtain ⟨_, _, _, q⟩ := hs
    exact False.elim q
end L2
namespace L2
open PySem PySem.Spec PyProof.Rows
section
variable {X : Cx} {x : Str} {p pos : Pos} {e : Expr} {es : List Expr} {t : TA} {id T : String} {r : List V → Hp → VK → Prop}
noncomputable def tCB (r : List V → Hp → VK → Prop) (t : TA) : TE := fun σ H Q => t σ H fun vs H1 => r vs H1 Q
theorem pe_callB (hc : CallR X (.builtin id) r) (hg : Gl X x) (hm : X.mg x = none) (hv : bootBuiltins x = some (.builtin id)) (ha : PA X (e :: es) t) (hn : x ≠ "__name__" := by decide) (hdb : (x == ("__debug__" : Str)) = false := by decide)
    (he : starEach (e :: es) X.env = (false, eval e X.env) :: starEach es X.env := by rfl) (hpl : (backTo pos (starEach es X.env)).any (·.1) = false := by rfl) : PE X (.Call (.Name x p) (e :: es) [] pos) (tCB r t) := by
  intro pins s σ H Q I h
  refine wpAny_Call_Name_kw (ld_blt I hg hm hv ?_ hn hdb)
  exact PyProof.Rows.callWith_builtin1 (thn (ha pos pins s σ H _ I h) fun us s1 ⟨vs, H1, I1, r1, q1⟩ => hc pins s1 σ H1 vs us Q I1 r1 q1) he hpl
theorem pe_callTy (hc : CallR X (.type T) r) (hg : Gl X x) (hm : X.mg x = none) (hv : bootBuiltins x = some (.type T)) (ha : PA X (e :: es) t) (hn : x ≠ "__name__" := by decide) (hdb : (x == ("__debug__" : Str)) = false := by decide)
    (he : starEach (e :: es) X.env = (false, eval e X.env) :: starEach es X.env := by rfl) (hpl : (backTo pos (starEach es X.env)).any (·.1) = false := by rfl) : PE X (.Call (.Name x p) (e :: es) [] pos) (tCB r t) := by
  intro pins s σ H Q I h
  refine wpAny_Call_Name_kw (ld_blt I hg hm hv ?_ hn hdb)
  exact PyProof.Rows.callWith_type1 (thn (ha pos pins s σ H _ I h) fun us s1 ⟨vs, H1, I1, r1, q1⟩ => hc pins s1 σ H1 vs us Q I1 r1 q1) he hpl
end
end L2
namespace HT
open PySem PyProof.Rows
section
open PySem.SeqAt
open PySem.AutoSeq1 (wpAny_loadPart')
open PySem.MeetsSeq PySem.MeetsSeq2 PySem.MeetsSeq3
end
section
variable {prog : Program} {w : World} {A : Around} {E : Value → Shared → Prop} {s : Shared}
theorem cat_tup {t b : Addr} {vs ws : List Value} {Q : Value → Shared → Prop} (ht : IsTup s.heap t vs.toArray) (hb : IsTup s.heap b ws.toArray) (hv : vs ≠ [])
    (h1 : ws = [] → Q (.ref t) s) (h2 : ws ≠ [] → Q (.ref s.heap.objs.size) { s with heap := s.heap.push { cls := .type "tuple", data := .seq (vs ++ ws).toArray } })
    (hsz : vs.length + ws.length ≤ sizeLine) : wpAny (model prog w) A (binaryOp .Add (.ref t) (.ref b)) Q E s := by
  obtain ⟨⟨cls, dd, data, sl⟩, ho, hc, n, hd⟩ := id ht
  obtain ⟨⟨cls2, dd2, data2, sl2⟩, ho2, hc2, n2, hd2⟩ := id hb
  simp only at hc hd hc2 hd2
  subst hc hd hc2 hd2
  have e : vs.toArray ++ ws.toArray = (vs ++ ws).toArray := by simp
  by_cases hw : ws = []
  · exact concat_meets ⟨_, ho, rfl⟩ ⟨_, ho2, rfl⟩ noFill_tuple_add seq_tuple_add PySem.F.slot_tuple_add PySem.F.entry_tuple_add (PySem.F.args_tuple_add_2 _ _)
      (tuple_addW1 t b vs.toArray ws.toArray n n2 dd dd2 sl sl2 (by simpa using hv) (by simp [hw])) ⟨ho, ho2, h1 hw⟩
  · refine concat_meets ⟨_, ho, rfl⟩ ⟨_, ho2, rfl⟩ noFill_tuple_add seq_tuple_add PySem.F.slot_tuple_add PySem.F.entry_tuple_add (PySem.F.args_tuple_add_2 _ _)
      (tuple_addW2 t b vs.toArray ws.toArray n n2 dd dd2 sl sl2 (by simpa using hv) (by simpa using hw) (by rw [List.size_toArray, List.size_toArray]; exact hsz)) ⟨ho, ho2, ?_⟩
    rw [e]
    exact h2 hw
noncomputable def sIx (n d : Nat) : Option Int → Nat
  | none => d
  | some v => if v < 0 then (v + (n : Int)).toNat else min v.toNat n
theorem sIx_none (n d : Nat) : sIx n d none = d := rfl
theorem sIx_nat (n d k : Nat) : sIx n d (some (k : Int)) = min k n := by
  show (if (k : Int) < 0 then ((k : Int) + (n : Int)).toNat else min (k : Int).toNat n) = min k n
  rw [if_neg (by omega), Int.toNat_natCast]
theorem sIx_le (n d : Nat) (hd : d ≤ n) (o : Option Int) : sIx n d o ≤ n := by
  cases o with
  | none => exact hd
  | some v =>
    show (if v < 0 then (v + (n : Int)).toNat else min v.toNat n) ≤ n
    by_cases hv : v < 0
    · rw [if_pos hv]; omega
    · rw [if_neg hv]; exact Nat.min_le_right _ _
theorem clip_eq (v : Int) (n d : Nat) : (if v < 0 then max (v + (n : Int)) 0 else min v (n : Int)) = ((sIx n d (some v) : Nat) : Int) := by
  show (if v < 0 then max (v + (n : Int)) 0 else min v (n : Int)) = (((if v < 0 then (v + (n : Int)).toNat else min v.toNat n) : Nat) : Int)
  by_cases hv : v < 0
  · simp only [if_pos hv]; omega
  · simp only [if_neg hv]; omega
theorem adjust_gen (lo hi : Option Int) (n : Nat) : Builtin.Slice.sliceAdjust lo hi 1 (n : Int) = (((sIx n 0 lo : Nat) : Int), ((sIx n n hi : Nat) : Int)) := by
  have h1 : ¬ ((1 : Int) < 0) := by omega
  unfold Builtin.Slice.sliceAdjust
  simp only [h1, if_false]
  refine Prod.ext ?_ ?_
  · cases lo with
    | none => rfl
    | some v => exact clip_eq v n 0
  · cases hi with
    | none => rfl
    | some v => exact clip_eq v n n
theorem places_gen (i j : Nat) : Builtin.Slice.slicePlaces (i : Int) (j : Int) 1 = j - i := by
  unfold Builtin.Slice.slicePlaces
  have h1 : (1 : Int) > 0 := by omega
  simp only [h1, if_true, Int.ediv_one]
  split <;> omega
theorem slicePart_ {v : Value} {o : Option Int} {Q : Option Int → Shared → Prop} (p : IsPart v o) (h : Q o s) : wpAny (model prog w) A (Builtin.Slice.slicePartIndex v) Q E s := by
  cases p with
  | none => exact slicePart_none h
  | int i t => exact slicePart_int h
theorem sliceApplied_gen {sl : Addr} {vl vu : Value} {lo hi : Option Int} {n : Nat} {Q : Int × Int × Nat → Shared → Prop} (hs : s.heap.IsSliceOf sl vl vu .none) (pl : IsPart vl lo) (pu : IsPart vu hi)
    (h : Q (((sIx n 0 lo : Nat) : Int), 1, sIx n n hi - sIx n 0 lo) s) : wpAny (model prog w) A (Builtin.Slice.sliceApplied (.ref sl) (pure (n : Int))) Q E s := by
  obtain ⟨os, hos, hcs, hds⟩ := id hs
  unfold Builtin.Slice.sliceApplied Builtin.Slice.sliceFields
  refine wpAny_bind (wpAny_bind (wpAny_field hos hds (x := vl) rfl (wpAny_bind (wpAny_field hos hds (x := vu) rfl (wpAny_bind (wpAny_field hos hds (x := .none) rfl (wpAny_pure ?_)))))))
  refine wpAny_bind (slicePart_none ?_)
  show wpAny _ _ (if ((1 : Int) == 0) = true then _ else _) _ _ s
  rw [if_neg (by decide)]
  refine wpAny_bind (slicePart_ pl (wpAny_bind (slicePart_ pu (wpAny_bind (wpAny_pure ?_)))))
  show wpAny _ _ (match Builtin.Slice.sliceAdjust lo hi 1 (n : Int) with | (lo, hi) => pure (lo, (1 : Int), Builtin.Slice.slicePlaces lo hi 1)) _ _ s
  rw [adjust_gen lo hi n]
  show wpAny _ _ (pure (((sIx n 0 lo : Nat) : Int), (1 : Int), Builtin.Slice.slicePlaces ((sIx n 0 lo : Nat) : Int) ((sIx n n hi : Nat) : Int) 1)) _ _ s
  rw [places_gen]
  exact wpAny_pure h
theorem pick_gen (xs : Array Value) (i k : Nat) : ((List.range k).filterMap fun (m : Nat) => xs[((i : Int) + (m : Int) * 1).toNat]?).toArray = ((xs.toList.drop i).take k).toArray := by
  have e : (fun (m : Nat) => xs[((i : Int) + (m : Int) * 1).toNat]?) = fun m => xs[i + m]? := by
    funext m
    have : ((i : Int) + (m : Int) * 1).toNat = i + m := by omega
    rw [this]
  rw [e]
  have := pick_run xs i k
  rw [List.filterMap_map] at this
  have e2 : ((fun x => xs[x]?) ∘ fun x => i + x) = fun m => xs[i + m]? := rfl
  rw [e2] at this
  rw [this]
theorem getItem_tuple_cut {t sl : Addr} {items : Array Value} {vl vu : Value} {lo hi : Option Int} {Q : Value → Shared → Prop} (ht : IsTup s.heap t items) (hs : s.heap.IsSliceOf sl vl vu .none) (pl : IsPart vl lo) (pu : IsPart vu hi)
    (hw : ¬ (sIx items.size 0 lo = 0 ∧ sIx items.size items.size hi = items.size))
    (h : Q (.ref s.heap.objs.size) { s with heap := s.heap.push { cls := .type "tuple", data := .seq ((items.toList.drop (sIx items.size 0 lo)).take (sIx items.size items.size hi - sIx items.size 0 lo)).toArray } })
    (hsz : items.size ≤ sizeLine) : wpAny (model prog w) A (getItem (.ref t) (.ref sl)) Q E s := by
  have htake : sizeOk (.seq ((items.toList.drop (sIx items.size 0 lo)).take (sIx items.size items.size hi - sIx items.size 0 lo)).toArray) := by
    show ((items.toList.drop (sIx items.size 0 lo)).take (sIx items.size items.size hi - sIx items.size 0 lo)).toArray.size ≤ sizeLine
    rw [List.size_toArray, List.length_take, List.length_drop, Array.length_toList]
    omega
  have hj : sIx items.size items.size hi ≤ items.size := sIx_le _ _ (Nat.le_refl _) hi
  obtain ⟨os, hos, hcs, hds⟩ := id hs
  have hTs : s.TypeIs (.ref sl) "slice" := ⟨os, hos, hcs⟩
  unfold getItem
  try with_reducible refine wpAny_holding ?_
  first | refine wpAny_bind (wpAny_pure ?_) | skip
  refine wpAny_bind (wpAny_sequenceKey ht.typeIs (by decide) ?_)
  refine wpAny_bind (wpAny_callSpecial?_slot (name := Str.ofString "__getitem__") ht.typeIs PyProof.Rows.slot_tuple_getitem
    (wpAny_call_entry PyProof.Rows.slot_tuple_getitem ht.typeIs entry_tuple_getitem ?_ (args_tuple_getitem _ _)))
  show wpAny _ _ (Builtin.Tuple.tupleItemsOf (.ref t) >>= _) _ _ s
  refine wpAny_bind (tupleItemsOf_ ht ?_)
  refine wpAny_bind (wpAny_typeOf hTs ?_)
  rw [if_pos (by decide)]
  refine wpAny_bind (sliceApplied_gen hs pl pu ?_)
  have hno : ¬ ((((sIx items.size 0 lo : Nat) : Int) == 0 && (1 : Int) == 1 && (sIx items.size items.size hi - sIx items.size 0 lo) == items.size) = true) := by
    intro q
    rw [Bool.and_eq_true, Bool.and_eq_true] at q
    have q1 : ((sIx items.size 0 lo : Nat) : Int) = 0 := eq_of_beq q.1.1
    have q2 : sIx items.size items.size hi - sIx items.size 0 lo = items.size := eq_of_beq q.2
    exact hw ⟨by omega, by omega⟩
  show wpAny _ _ (if (((sIx items.size 0 lo : Nat) : Int) == 0 && (1 : Int) == 1 && (sIx items.size items.size hi - sIx items.size 0 lo) == items.size) = true then _ else _) _ _ s
  rw [if_neg hno, pick_gen]
  first
    | exact wpAny_bind (m := Builtin.Tuple.tupleExact _) (wpAny_newObj_type (wpAny_pure ⟨_, rfl, wpAny_pure h⟩) htake)
    | exact wpAny_bind (m := Builtin.Tuple.tupleExact _) (wpAny_newObj_type (wpAny_bind (wpAny_pure (wpAny_pure ⟨_, rfl, wpAny_pure h⟩))) htake)
    | exact wpAny_bind (wpAny_bind (m := Builtin.Tuple.tupleExact _) (wpAny_newObj_type (wpAny_pure (wpAny_pure ⟨_, rfl, wpAny_pure h⟩)) htake))
    | exact wpAny_bind (wpAny_bind (m := Builtin.Tuple.tupleExact _) (wpAny_newObj_type (wpAny_pure ⟨_, rfl, wpAny_pure h⟩) htake))
end
end HT
namespace L2
open PySem PySem.Spec PyProof.Rows
abbrev TO := St → Hp → (Option Int → Hp → Prop) → Prop
noncomputable def PO (X : Cx) (e : Option Expr) (t : TO) : Prop :=
  ∀ (pins : List (Addr × Obj)) (s : Shared) (σ : St) (H : Hp) (Q : Option Int → Hp → Prop), Inv X pins σ H s → t σ H Q →
    wpAny (model X.prog X.w) X.A (evalPart e X.env) (fun u s' => ∃ o H', Inv X pins σ H' s' ∧ IsPart u o ∧ Q o H') X.xe s
noncomputable def tNoPart : TO := fun _ H Q => Q none H
noncomputable def tPart (t : TE) : TO := fun σ H Q => t σ H fun x H1 => ∃ i, x = .int i ∧ Q (some i) H1
section
variable {X : Cx} {e : Expr} {te : TE} {lo hi : Option Expr} {tl th : TO} {pos p2 : Pos}
theorem po_none : PO X none tNoPart := by
  intro pins s σ H Q I h
  rw [evalPart_none]
  exact wpAny_pure ⟨none, H, I, .none, h⟩
theorem po_some (h : PE X e te) : PO X (some e) (tPart te) := by
  intro pins s σ H Q I hw
  rw [evalPart_some]
  refine thn (h pins s σ H _ I hw) fun u s1 ⟨x, H1, I1, r1, q1⟩ => ?_
  obtain ⟨i, rfl, q⟩ := q1
  obtain ⟨t, rfl⟩ := r1
  exact ⟨some i, H1, I1, .int i t, q⟩
noncomputable def SlR (X : Cx) (r : V → Option Int → Option Int → Hp → VK → Prop) : Prop :=
  ∀ (pins : List (Addr × Obj)) (s : Shared) (σ : St) (H : Hp) (x : V) (v vl vu : Value) (lo hi : Option Int) (sl : Addr) (Q : VK), Inv X pins σ H s → RelV x v → s.heap.IsSliceOf sl vl vu .none → IsPart vl lo → IsPart vu hi → r x lo hi H Q →
    ∃ T id, typeLookup (.type T) "__getitem__" = pure (some (.builtin id)) ∧ s.TypeIs v T ∧ wpAny (model X.prog X.w) X.A (getItem v (.ref sl)) (EP X pins σ Q) X.xe s
theorem SlR.or {r r' : V → Option Int → Option Int → Hp → VK → Prop} (h : SlR X r) (h' : SlR X r') : SlR X (fun x lo hi H Q => r x lo hi H Q ∨ r' x lo hi H Q) := by
  intro pins s σ H x v vl vu lo hi sl Q I rx hs pl pu q
  rcases q with q | q
  · exact h pins s σ H x v vl vu lo hi sl Q I rx hs pl pu q
  · exact h' pins s σ H x v vl vu lo hi sl Q I rx hs pl pu q
noncomputable def tSl (r : V → Option Int → Option Int → Hp → VK → Prop) (te : TE) (tl th : TO) : TE := fun σ H Q => te σ H fun x H1 => tl σ H1 fun l H2 => th σ H2 fun u H3 => r x l u H3 Q
theorem pe_slice {r : V → Option Int → Option Int → Hp → VK → Prop} (hr : SlR X r) (he : PE X e te) (hl : PO X lo tl) (hu : PO X hi th) : PE X (.Subscript e (.Slice lo hi none p2) pos) (tSl r te tl th) := by
  intro pins s σ H Q I h
  refine Subscript_ (thn (he pins s σ H _ I h) fun v s1 ⟨x, H1, I1, r1, q1⟩ => ?_)
  refine wpAny_Slice (thn (hl pins s1 σ H1 _ I1 q1) fun vl s2 ⟨l, H2, I2, pl, q2⟩ => thn (hu pins s2 σ H2 _ I2 q2) fun vu s3 ⟨u, H3, I3, pu, q3⟩ => ?_)
  rw [evalPart_none]
  refine wpAny_pure ?_
  have I4 : Inv X pins σ H3 { s3 with heap := s3.heap.push { cls := .type "slice", data := .fields #[vl, vu, .none] } } := I3.kept (t' := s3.toks) fun b ob q => Heap.get?_push_of_some _ q
  obtain ⟨T, id, hT, ht, hg⟩ := hr pins { s3 with heap := s3.heap.push { cls := .type "slice", data := .fields #[vl, vu, .none] } } σ H3 x v vl vu l u s3.heap.objs.size Q I4 r1 (Heap.IsSliceOf.new ..) pl pu q3
  show wpAny (model X.prog X.w) X.A (subscriptTail e (.Slice lo hi none p2) v (.ref s3.heap.objs.size)) (EP X pins σ Q) X.xe { s3 with heap := s3.heap.push { cls := .type "slice", data := .fields #[vl, vu, .none] } }
  exact tail_any (ops := [.ref s3.heap.objs.size, v]) ht hT hg (by with_unfolding_all rfl)
noncomputable def cutV (xs : List V) (lo hi : Option Int) : List V := (xs.drop (HT.sIx xs.length 0 lo)).take (HT.sIx xs.length xs.length hi - HT.sIx xs.length 0 lo)
theorem cutV_length (xs : List V) (lo hi : Option Int) : (cutV xs lo hi).length ≤ xs.length := by
  unfold cutV
  rw [List.length_take, List.length_drop]
  omega
noncomputable def rSlT (K : PySem.W.Frag) : V → Option Int → Option Int → Hp → VK → Prop := fun x lo hi H Q => ∃ a xs, x = .ref a ∧ SqT K H a xs ∧
  ¬ (HT.sIx xs.length 0 lo = 0 ∧ HT.sIx xs.length xs.length hi = xs.length) ∧ ∀ p, H p = none → Q (.ref p) (upd H p (.tup (cutV xs lo hi)))
theorem sl_tup : SlR X (rSlT X.K) := by
  intro pins s σ H x v vl vu lo hi sl Q I rx hs pl pu h
  obtain ⟨a, xs, rfl, hx, hw, q⟩ := h
  cases rx
  obtain ⟨its, r, ht, hz⟩ := I.tuple hx
  have hlen : its.toArray.size = xs.length := by rw [List.size_toArray]; exact r.length.symm
  refine ⟨"tuple", _, PyProof.Rows.slot_tuple_getitem.lookup, ht.typeIs, ?_⟩
  refine HT.getItem_tuple_cut ht hs pl pu (by rw [hlen]; exact hw) ?_ (by rw [hlen]; exact hz)
  rw [hlen]
  refine ⟨.ref s.heap.objs.size, _, I.laid (t' := s.toks) (o := .tup (cutV xs lo hi)) (fun b ob q => Heap.get?_push_of_some _ q) (Nat.le_refl _) ?_, rfl, q _ (I.hok.fresh (Nat.le_refl _))⟩
  exact ⟨Nat.le_trans (cutV_length xs lo hi) hz, _, (r.drop (HT.sIx xs.length 0 lo)).take (HT.sIx xs.length xs.length hi - HT.sIx xs.length 0 lo), IsTup.new _ _⟩
noncomputable def rCatT (K : PySem.W.Frag) : R2 := fun x y H Q => ∃ a b xs ys, x = .ref a ∧ y = .ref b ∧ SqT K H a xs ∧ SqT K H b ys ∧ xs ≠ [] ∧ xs.length + ys.length ≤ sizeLine ∧
  (ys = [] → Q (.ref a) H) ∧ (ys ≠ [] → ∀ p, H p = none → Q (.ref p) (upd H p (.tup (xs ++ ys))))
theorem Vals.nil_iff {xs : List V} {us : List Value} (r : Vals xs us) : us = [] ↔ xs = [] := by
  cases r with
  | nil => simp
  | cons _ _ => simp
theorem op_catT : OpR X (binaryOp .Add) (rCatT X.K) := by
  intro pins s σ H x y v u Q I rx ry h
  obtain ⟨a, b, xs, ys, rfl, rfl, ha, hb, hx, hz, q1, q2⟩ := h
  cases rx
  cases ry
  obtain ⟨its, r1, p1, _⟩ := I.tuple ha
  obtain ⟨its2, r2, p2, _⟩ := I.tuple hb
  refine HT.cat_tup p1 p2 (fun z => hx (r1.nil_iff.mp z)) (fun z => ⟨.ref a, H, I, rfl, q1 (r2.nil_iff.mp z)⟩) (fun z => ?_) (by rw [← r1.length, ← r2.length]; exact hz)
  refine ⟨.ref s.heap.objs.size, _, I.laid (t' := s.toks) (o := .tup (xs ++ ys)) (fun b ob q => Heap.get?_push_of_some _ q) (Nat.le_refl _) ?_, rfl, q2 (fun w => z (r2.nil_iff.mpr w)) _ (I.hok.fresh (Nat.le_refl _))⟩
  exact ⟨by rw [List.length_append]; exact hz, _, r1.append r2, IsTup.new _ _⟩
end
end L2
namespace L2
open PySem PySem.Spec PyProof.Rows
noncomputable def ixN (n : Nat) (i : Int) : Option Nat := if 0 ≤ i then (if i < n then some i.toNat else none) else if -(n : Int) ≤ i then some (i + n).toNat else none
noncomputable def atI {α : Type} (xs : List α) (i : Int) : Option α := (ixN xs.length i).bind fun j => xs[j]?
theorem ixN_seq {n : Nat} {i : Int} {j : Nat} (h : ixN n i = some j) : seqIndex? i n = some j ∧ j < n ∧ -(n : Int) ≤ i ∧ i < n := by
  unfold ixN at h
  by_cases h0 : 0 ≤ i
  · rw [if_pos h0] at h
    by_cases h1 : i < n
    · rw [if_pos h1] at h
      have e : i.toNat = j := Option.some.inj h
      exact ⟨by rw [seqIndex_of h0 h1, e], by omega, by omega, h1⟩
    · rw [if_neg h1] at h; cases h
  · rw [if_neg h0] at h
    by_cases h1 : -(n : Int) ≤ i
    · rw [if_pos h1] at h
      have e : (i + n).toNat = j := Option.some.inj h
      exact ⟨by rw [seqIndex_neg (by omega) h1, e], by omega, h1, by omega⟩
    · rw [if_neg h1] at h; cases h
theorem atI_get {α : Type} {xs : List α} {i : Int} {v : α} (h : atI xs i = some v) : ∃ j, seqIndex? i xs.length = some j ∧ xs[j]? = some v ∧ j < xs.length ∧ -(xs.length : Int) ≤ i ∧ i < xs.length := by
  unfold atI at h
  cases e : ixN xs.length i with
  | none => rw [e] at h; cases h
  | some j =>
    rw [e] at h
    obtain ⟨h1, h2, h3, h4⟩ := ixN_seq e
    exact ⟨j, h1, h, h2, h3, h4⟩
theorem atI_nat {α : Type} {xs : List α} {j : Nat} {v : α} (h : xs[j]? = some v) : atI xs (j : Int) = some v := by
  have hj : j < xs.length := (List.getElem?_eq_some_iff.mp h).1
  have e : ixN xs.length (j : Int) = some j := by
    unfold ixN
    rw [if_pos (by omega), if_pos (by omega)]; simp
  unfold atI; rw [e]; exact h
noncomputable def PlainIx (b : Expr) : Prop := ∀ o i, subscripted b false o i = operate [o, i] (getItem o i)
noncomputable def IxR (X : Cx) (r : R2) : Prop :=
  ∀ (value slice : Expr) (pins : List (Addr × Obj)) (s : Shared) (σ : St) (H : Hp) (x y : V) (v u : Value) (Q : VK), Inv X pins σ H s → RelV x v → RelV y u → r x y H Q →
    subscripted slice false v u = operate [v, u] (getItem v u) → wpAny (model X.prog X.w) X.A (subscriptTail value slice v u) (EP X pins σ Q) X.xe s
noncomputable def MtR (X : Cx) (id : String) (r : V → List V → Hp → VK → Prop) : Prop :=
  ∀ (pins : List (Addr × Obj)) (s : Shared) (σ : St) (H : Hp) (x : V) (xs : List V) (v : Value) (us : List Value) (Q : VK), Inv X pins σ H s → RelV x v → Vals xs us → r x xs H Q →
    wpAny (model X.prog X.w) X.A (call (.builtin id) (v :: us)) (EP X pins σ Q) X.xe s
section
variable {X : Cx} {a b : Expr} {ta tb : TE} {pos : Pos}
theorem IxR.or {r r' : R2} (h : IxR X r) (h' : IxR X r') : IxR X (fun x y H Q => r x y H Q ∨ r' x y H Q) := by
  intro value slice pins s σ H x y v u Q I rx ry q hs
  rcases q with q | q
  · exact h value slice pins s σ H x y v u Q I rx ry q hs
  · exact h' value slice pins s σ H x y v u Q I rx ry q hs
theorem MtR.or {id : String} {r r' : V → List V → Hp → VK → Prop} (h : MtR X id r) (h' : MtR X id r') : MtR X id (fun x xs H Q => r x xs H Q ∨ r' x xs H Q) := by
  intro pins s σ H x xs v us Q I rx rs q
  rcases q with q | q
  · exact h pins s σ H x xs v us Q I rx rs q
  · exact h' pins s σ H x xs v us Q I rx rs q
theorem pe_ix {r : R2} (hr : IxR X r) (ha : PE X a ta) (hb : PE X b tb) (hs : PlainIx b) : PE X (.Subscript a b pos) (tOp r ta tb) := by
  intro pins s σ H Q I h
  exact Subscript_ (binT ha hb I h fun v u s2 x y H2 I2 rx ry q => hr a b pins s2 σ H2 x y v u Q I2 rx ry q (hs _ _))
noncomputable def rIxL (K : PySem.W.Frag) : R2 := fun x y H Q => ∃ p xs i v, x = .ref p ∧ y = .int i ∧ SqL K H p xs ∧ atI xs i = some v ∧ Q v H
noncomputable def rIxT (K : PySem.W.Frag) : R2 := fun x y H Q => ∃ p xs i v, x = .ref p ∧ y = .int i ∧ SqT K H p xs ∧ atI xs i = some v ∧ Q v H
noncomputable def rIxS : R2 := fun x y H Q => ∃ z i c, x = .str z ∧ y = .int i ∧ z.length ≤ sizeLine ∧ atI z.cps.toList i = some c ∧ Q (.str ⟨#[c]⟩) H
theorem ix_list : IxR X (rIxL X.K) := by
  intro value slice pins s σ H x y v u Q I rx ry h hs
  obtain ⟨p, xs, i, z, rfl, rfl, hq, he, q⟩ := h
  cases rx
  obtain ⟨t, rfl⟩ := ry
  obtain ⟨its, r, pl, hz⟩ := I.list hq
  obtain ⟨j, h1, h2, h3, h4, h5⟩ := atI_get he
  obtain ⟨w, ew, rw'⟩ := r.get h2
  have hl := r.length
  have hn := line63
  have fin : EP X pins σ Q w s := ⟨z, H, I, rw', q⟩
  by_cases h0 : 0 ≤ i
  · have hj : i.toNat = j := by
      rw [seqIndex_of h0 h5] at h1
      exact Option.some.inj h1
    exact item_listR pl.isList h0 (by omega) (by rw [hj]; simpa using ew) fin hs
  · have hj : (i + (its.toArray.size : Int)).toNat = j := by
      rw [seqIndex_neg (by omega) h4] at h1
      rw [List.size_toArray, ← hl]
      exact Option.some.inj h1
    exact subscriptTail_builtinR (x := w) pl.isList.typeIs slot_list_getitem.lookup
      (wpAny_getItem_list_neg (Q := fun r s' => r = w ∧ EP X pins σ Q r s') pl.isList (by omega) (by rw [List.size_toArray] <;> omega) (by omega) (by rw [hj]; simpa using ew) ⟨rfl, fin⟩) hs
theorem ix_tup : IxR X (rIxT X.K) := by
  intro value slice pins s σ H x y v u Q I rx ry h hs
  obtain ⟨p, xs, i, z, rfl, rfl, hq, he, q⟩ := h
  cases rx
  obtain ⟨t, rfl⟩ := ry
  obtain ⟨its, r, pl, hz⟩ := I.tuple hq
  obtain ⟨j, h1, h2, h3, h4, h5⟩ := atI_get he
  obtain ⟨w, ew, rw'⟩ := r.get h2
  have hl := r.length
  have hn := line63
  have fin : EP X pins σ Q w s := ⟨z, H, I, rw', q⟩
  exact subscriptTail_builtinR (x := w) pl.typeIs slot_tuple_getitem.lookup
    (getItem_tuple (j := j) (Q := fun r s' => r = w ∧ EP X pins σ Q r s') pl (by omega) (by omega) (by rw [List.size_toArray, ← hl]; exact h1) (by simpa using ew) ⟨rfl, fin⟩) hs
theorem ix_str : IxR X rIxS := by
  intro value slice pins s σ H x y v u Q I rx ry h hs
  obtain ⟨z, i, c, rfl, rfl, hz, he, q⟩ := h
  obtain ⟨t, rfl⟩ := rx
  obtain ⟨t', rfl⟩ := ry
  obtain ⟨j, h1, h2, h3, h4, h5⟩ := atI_get he
  have hl : z.cps.toList.length = z.length := by simp [Str.length]
  rw [hl] at h1 h4 h5
  have hn := line63
  exact tail_any (typeIs_str s z t) slot_str_getitem.lookup (getItem_str (c := c) (by
    have e1 : decide (i < -(2 ^ 63 : Int)) = false := decide_eq_false (by omega)
    have e2 : decide (i ≥ 2 ^ 63) = false := decide_eq_false (by omega)
    rw [e1, e2, Bool.or_false]) (by rw [h1]; simpa using h2) ⟨.str ⟨#[c]⟩, H, I.tok _, ⟨_, rfl⟩, q⟩) hs
noncomputable def rIx (K : PySem.W.Frag) : R2 := fun x y H Q => rIxL K x y H Q ∨ rIxT K x y H Q ∨ rIxS x y H Q
theorem ix_seq : IxR X (rIx X.K) := ix_list.or (ix_tup.or ix_str)
theorem Inv.lst {pins : List (Addr × Obj)} {σ : St} {H : Hp} {s : Shared} {p : Addr} {xs : List V} (I : Inv X pins σ H s) (h : H p = some (.lst xs)) :
    ∃ (its : List Value) (n : Nat), Vals xs its ∧ s.heap.get? p = some { cls := .type "list", data := .seq its.toArray n } ∧ xs.length ≤ sizeLine := by
  obtain ⟨z, its, n, r, e⟩ := I.hok p _ h
  exact ⟨its, n, r, e, z⟩
theorem slice_bounds (lo hi : Option Int) (n : Nat) : (sliceBounds lo hi none n).1 = ((HT.sIx n 0 lo : Nat) : Int) ∧ (sliceBounds lo hi none n).2.1 = ((HT.sIx n n hi : Nat) : Int) ∧ (sliceBounds lo hi none n).2.2 = 1 := by
  refine ⟨?_, ?_, rfl⟩
  · cases lo with
    | none => simp [sliceBounds, HT.sIx]
    | some i =>
      simp only [sliceBounds, HT.sIx, Option.getD_none, show (1 : Int) > 0 by decide, if_true]
      by_cases h : i < 0
      · simp only [h, if_true] <;> omega
      · simp only [h, if_false] <;> omega
  · cases hi with
    | none => simp [sliceBounds, HT.sIx]
    | some i =>
      simp only [sliceBounds, HT.sIx, Option.getD_none, show (1 : Int) > 0 by decide, if_true]
      by_cases h : i < 0
      · simp only [h, if_true] <;> omega
      · simp only [h, if_false] <;> omega
theorem slicePick_cut (its : List Value) (lo hi : Option Int) : slicePick its.toArray lo hi none = ((its.drop (HT.sIx its.length 0 lo)).take (HT.sIx its.length its.length hi - HT.sIx its.length 0 lo)).toArray := by
  obtain ⟨h1, h2, h3⟩ := slice_bounds lo hi its.toArray.size
  unfold slicePick
  rw [h1, h2, h3]
  simp only [sliceRange_one, pick_run, List.size_toArray] <;> rfl
noncomputable def rSlL (K : PySem.W.Frag) : V → Option Int → Option Int → Hp → VK → Prop := fun x lo hi H Q => ∃ a xs, x = .ref a ∧ SqL K H a xs ∧ ∀ p, H p = none → Q (.ref p) (upd H p (.lst (cutV xs lo hi)))
theorem sl_list : SlR X (rSlL X.K) := by
  intro pins s σ H x v vl vu lo hi sl Q I rx hs pl pu h
  obtain ⟨a, xs, rfl, hx, q⟩ := h
  cases rx
  obtain ⟨its, r, ht, hz⟩ := I.list hx
  have hlen := r.length
  refine ⟨"list", _, slot_list_getitem.lookup, ht.isList.typeIs, ?_⟩
  refine wpAny_getItem_list_slice ht.isList hs pl pu .none (by simp) ?_ (by rw [List.size_toArray] <;> omega)
  rw [slicePick_cut, ← hlen]
  refine ⟨.ref s.heap.objs.size, _, I.laid (t' := s.toks) (o := .lst (cutV xs lo hi)) (fun b ob q => Heap.get?_push_of_some _ q) (Nat.le_refl _) ?_, rfl, q _ (I.hok.fresh (Nat.le_refl _))⟩
  exact ⟨Nat.le_trans (cutV_length xs lo hi) hz, _, 0, (r.drop (HT.sIx xs.length 0 lo)).take (HT.sIx xs.length xs.length hi - HT.sIx xs.length 0 lo), Heap.get?_push_size _ rfl⟩
theorem call_len_seq : CallR X (.builtin "len") (fun xs H Q => ∃ p ys, xs = [.ref p] ∧ (SqL X.K H p ys ∨ SqT X.K H p ys) ∧ Q (.int ys.length) H) := by
  intro pins s σ H xs us Q I r h
  obtain ⟨p, ys, rfl, hq, q⟩ := h
  obtain ⟨u, rfl, rx⟩ := vals1 r
  cases rx
  have hn := line63
  rcases hq with hq | hq
  · obtain ⟨its, r', pl, hz⟩ := I.list hq
    have hlen := r'.length
    exact Calls.call_len_list pl.isList (by simp only [List.size_toArray] <;> omega) ⟨.int ys.length, H, I.tok _, ⟨s.toks + 1, by rw [List.size_toArray, hlen]⟩, q⟩
  · obtain ⟨its, r', pl, hz⟩ := I.tuple hq
    have hlen := r'.length
    exact len_tuple pl (by simp only [List.size_toArray] <;> omega) ⟨.int ys.length, H, I.tok _, ⟨s.toks + 1, by rw [List.size_toArray, hlen]⟩, q⟩
theorem call_len_str : CallR X (.builtin "len") (fun xs H Q => ∃ z, xs = [.str z] ∧ z.length ≤ sizeLine ∧ Q (.int z.length) H) := by
  intro pins s σ H xs us Q I r h
  obtain ⟨z, rfl, hz, q⟩ := h
  obtain ⟨u, rfl, t, rfl⟩ := vals1 r
  have hn := line63
  exact len_str (by omega) ⟨.int z.length, H, I.tok _, ⟨_, rfl⟩, q⟩
theorem CallR.or {f : Value} {r r' : List V → Hp → VK → Prop} (h : CallR X f r) (h' : CallR X f r') : CallR X f (fun xs H Q => r xs H Q ∨ r' xs H Q) := by
  intro pins s σ H xs us Q I rs q
  rcases q with q | q
  · exact h pins s σ H xs us Q I rs q
  · exact h' pins s σ H xs us Q I rs q
theorem call_list_of : CallR X (.type "list") (fun xs H Q => ∃ p ys, xs = [.ref p] ∧ (SqL X.K H p ys ∨ SqT X.K H p ys) ∧ ∀ l, H l = none → Q (.ref l) (upd H l (.lst ys))) := by
  intro pins s σ H xs us Q I r h
  obtain ⟨p, ys, rfl, hq, q⟩ := h
  obtain ⟨u, rfl, rx⟩ := vals1 r
  cases rx
  have fin : ∀ (its : List Value), Vals ys its → ys.length ≤ sizeLine → ∀ (h' : Heap) (c' : Nat), (∀ b o', s.heap.get? b = some o' → h'.get? b = some o') →
      h'.get? s.heap.objs.size = some { cls := .type "list", dict := none, data := .seq its.toArray c', slots := #[] } → EP X pins σ Q (.ref s.heap.objs.size) { s with heap := h' } := fun its r' hz h' c' kp e =>
    ⟨.ref s.heap.objs.size, _, I.laid (t' := s.toks) kp (Nat.le_refl _) (show ObjOk X.prog X.w _ h' _ (.lst ys) from ⟨hz, its, c', r', e⟩), rfl, q _ (I.hok.fresh (Nat.le_refl _))⟩
  rcases hq with hq | hq
  · obtain ⟨its, r', pl, hz⟩ := I.list hq
    have hlen := r'.length
    obtain ⟨o, ho, hc, n, hd⟩ := pl.isList
    exact call_list_seq p (.inl rfl) ho hc hd (fun h' c' kp e => fin its r' hz h' c' kp e) (by simp only [List.size_toArray] <;> omega)
  · obtain ⟨its, r', pl, hz⟩ := I.tuple hq
    have hlen := r'.length
    obtain ⟨o, ho, hc, n, hd⟩ := pl
    exact call_list_seq p (.inr rfl) ho hc hd (fun h' c' kp e => fin its r' hz h' c' kp e) (by simp only [List.size_toArray] <;> omega)
theorem call_tuple_of : CallR X (.type "tuple") (fun xs H Q => ∃ p ys, xs = [.ref p] ∧ ((SqL X.K H p ys ∧ ∀ l, H l = none → Q (.ref l) (upd H l (.tup ys))) ∨ (SqT X.K H p ys ∧ Q (.ref p) H))) := by
  intro pins s σ H xs us Q I r h
  obtain ⟨p, ys, rfl, h⟩ := h
  obtain ⟨u, rfl, rx⟩ := vals1 r
  cases rx
  rcases h with ⟨hq, q⟩ | ⟨hq, q⟩
  · obtain ⟨its, r', pl, hz⟩ := I.list hq
    have hlen := r'.length
    refine call_tuple_list pl.isList (fun h' kp => ?_) (by simp only [List.size_toArray] <;> omega)
    have I1 : Inv X pins σ H { s with heap := h' } := I.kept (t' := s.toks) kp
    have I2 : Inv X pins σ (upd H h'.objs.size (.tup ys)) { s with heap := h'.push { cls := .type "tuple", data := .seq its.toArray } } :=
      I1.laid (t' := s.toks) (fun b o e => Heap.get?_push_of_some _ e) (Nat.le_refl _) (show ObjOk X.prog X.w _ _ _ (.tup ys) from ⟨hz, its, r', IsTup.new _ _⟩)
    exact ⟨.ref h'.objs.size, _, I2, rfl, q _ (I1.hok.fresh (Nat.le_refl _))⟩
  · obtain ⟨its, r', pl, hz⟩ := I.tuple hq
    exact call_tuple_same pl ⟨.ref p, H, I, rfl, q⟩
noncomputable def tyV (K : PySem.W.Frag) (T : String) (x : V) (H : Hp) : Prop := match x with
  | .str _ => T = "str"
  | .int _ => T = "int"
  | .ref p => (T = "list" ∧ ∃ xs, SqL K H p xs) ∨ (T = "tuple" ∧ ∃ o, K.lookup p = some o ∧ o.cls = .type "tuple" ∧ o.dict = none) ∨
      (T = "dict" ∧ ((∃ kvs, H p = some (.dK kvs)) ∨ ∃ kvs, H p = some (.dT kvs))) ∨ (T = "set" ∧ ∃ S n, H p = some (.set S n))
  | _ => False
theorem tyV_is {pins : List (Addr × Obj)} {σ : St} {H : Hp} {s : Shared} {T : String} {x : V} {v : Value} (I : Inv X pins σ H s) (r : RelV x v) (ty : tyV X.K T x H) :
    s.TypeIs v T ∧ ∀ a, v = .ref a → ∃ ob, s.heap.get? a = some ob ∧ ob.dict = none := by
  cases x with
  | str z =>
    obtain ⟨t, rfl⟩ := r
    cases (show T = "str" from ty)
    exact ⟨typeIs_str s z t, fun _ e => nomatch e⟩
  | int i =>
    obtain ⟨t, rfl⟩ := r
    cases (show T = "int" from ty)
    exact ⟨typeIs_int s i t, fun _ e => nomatch e⟩
  | ref p =>
    cases r
    rcases ty with ⟨rfl, xs, hq⟩ | ⟨rfl, o, hk, hc, hd⟩ | ⟨rfl, hk⟩ | ⟨rfl, S, n, hk⟩
    · obtain ⟨its, _, pl, _⟩ := I.list hq
      refine ⟨pl.isList.typeIs, fun a e => ?_⟩
      cases e
      obtain ⟨o, n, e, c, hd, _⟩ := pl
      exact ⟨o, e, hd⟩
    · refine ⟨⟨o, I.kIn p o hk, hc⟩, fun a e => ?_⟩
      cases e
      exact ⟨o, I.kIn _ o hk, hd⟩
    · have z : ∃ o, s.heap.get? p = some o ∧ o.ExactDict := by
        rcases hk with ⟨kvs, hk⟩ | ⟨kvs, hk⟩
        · obtain ⟨_, _, _, _, o, _, _, e, ex, _⟩ := I.hok p _ hk
          exact ⟨o, e, ex⟩
        · obtain ⟨_, _, _, _, o, _, _, e, ex, _⟩ := I.hok p _ hk
          exact ⟨o, e, ex⟩
      obtain ⟨o, e, ex⟩ := z
      refine ⟨⟨o, e, ex.1⟩, fun a e2 => ?_⟩
      cases e2
      exact ⟨o, e, ex.2.1⟩
    · obtain ⟨o, _, _, _, e, ex, _⟩ := I.hok p _ hk
      refine ⟨⟨o, e, ex.1⟩, fun a e2 => ?_⟩
      cases e2
      exact ⟨o, e, ex.2.1⟩
  | _ => exact False.elim ty
noncomputable def tBM (K : PySem.W.Frag) (T : String) (r : V → List V → Hp → VK → Prop) (to : TE) (t : TA) : TE := fun σ H Q => to σ H fun x H1 => tyV K T x H1 ∧ t σ H1 fun xs H2 => r x xs H2 Q
variable {o e : Expr} {es : List Expr} {to : TE} {t : TA} {name : Str} {apos cpos : Pos} {T id : String} {r : V → List V → Hp → VK → Prop}
theorem pe_bm (pa : PlainAttrs T) (slot : Slot T name id) (hty : typeOf (.builtin id) = pure (.type "method_descriptor")) (hm : MtR X id r) (ho : PE X o to) (ha : PA X (e :: es) t)
    (hbase : attributeBase o name X.env (eval o X.env) = eval o X.env := by rfl)
    (hfew : ((backTo cpos (starEach (e :: es) X.env)).all (fun x => !x.1) && (backToKw cpos (keywordEach [] X.env)).all (fun x => x.1.isSome)
      && decide ((e :: es).length + ([] : List Keyword).length + (if ([] : List Keyword).isEmpty then 0 else 1) < 30)) = true := by rfl)
    (hline : (apos.endLine == cpos.line) = true := by rfl) (hs : starEach (e :: es) X.env = (false, eval e X.env) :: starEach es X.env := by rfl) (hplain : (backTo cpos (starEach es X.env)).any (·.1) = false := by rfl) :
    PE X (.Call (.Attribute o name apos) (e :: es) [] cpos) (tBM X.K T r to t) := by
  intro pins s σ H Q I h
  refine wpAny_Call_method_late hbase hfew hline rfl (thn (ho pins s σ H _ I h) fun v s1 ⟨x, H1, I1, r1, ty, q1⟩ => ?_)
  obtain ⟨h1, h2⟩ := tyV_is I1 r1 ty
  refine ⟨T, id, pa, slot, hty, h1, h2, ?_⟩
  have hA := ha cpos pins s1 σ H1 _ I1 q1
  rw [hs] at hA ⊢
  refine Calls.callWith_builtin (by show (false || (backTo cpos (starEach es X.env)).any (·.1)) = false; rw [hplain] <;> rfl) (Calls.evalArgs_plain ?_)
  exact thn hA fun us s2 ⟨vs, H2, I2, r2, q2⟩ => hm pins s2 σ H2 x vs v us Q I2 r1 r2 q2
/- xs.append(e), list.index on a module's tuple .. are MtR facts of 06m -/
end
end L2
namespace L2
open PySem PySem.Spec PyProof.Rows
noncomputable def MtM (X : Cx) (id : String) (r : V → List V → Hp → VK → Prop) : Prop :=
  ∀ (pins : List (Addr × Obj)) (s : Shared) (σ : St) (H : Hp) (x : V) (xs : List V) (v : Value) (us : List Value) (Q : VK), Inv X pins σ H s → RelV x v → Vals xs us → r x xs H Q →
    wpAny (model X.prog X.w) X.A (call (.builtin id) (v :: us)) (EP X pins σ Q) X.xe s
theorem Vals.one : ∀ {x : V} {us : List Value}, Vals [x] us → ∃ u, us = [u] ∧ RelV x u
  | _, _, .cons r .nil => ⟨_, rfl, r⟩
theorem Vals.two : ∀ {x y : V} {us : List Value}, Vals [x, y] us → ∃ u v, us = [u, v] ∧ RelV x u ∧ RelV y v
  | _, _, _, .cons r (.cons q .nil) => ⟨_, _, rfl, r, q⟩
theorem Vals.zero : ∀ {us : List Value}, Vals [] us → us = []
  | _, .nil => rfl
theorem Vals.dropLast {xs : List V} {us : List Value} (h : Vals xs us) : Vals xs.dropLast us.dropLast := by
  induction h with
  | nil => exact .nil
  | cons r t ih =>
    cases t with
    | nil => exact .nil
    | cons q t' => exact .cons r ih
theorem Vals.reverse {xs : List V} {us : List Value} (h : Vals xs us) : Vals xs.reverse us.reverse := by
  induction h with
  | nil => exact .nil
  | cons r t ih => rw [List.reverse_cons, List.reverse_cons]; exact Vals.append ih (.cons r .nil)
section
variable {X : Cx} {pins : List (Addr × Obj)} {σ : St} {H : Hp} {s : Shared} {l b : Addr} {xs ys zs : List V}
theorem Inv.lset {its its' : List Value} {n : Nat} {f : Array Value → Array Value} {t' : Nat} (I : Inv X pins σ H s) (hH : H l = some (.lst xs))
    (e : s.heap.get? l = some { cls := .type "list", data := .seq its.toArray n }) (hf : f its.toArray = its'.toArray) (hv : Vals ys its') (hz : ys.length ≤ sizeLine) :
    Inv X pins σ (upd H l (.lst ys)) { s with heap := s.heap.update l (Obj.mapSeq f), toks := t' } := by
  have q := PySem.IsL.update e f
  rw [hf] at q
  refine I.write (x := l) (e := l) (by rw [hH]; exact trivial) (.inl rfl) (fun b' u hb hu => (Heap.get?_update_other s.heap (Obj.mapSeq f) (Ne.symm hb)).trans hu) ⟨_, q⟩ ?_
  exact ⟨hz, its', _, hv, q⟩
theorem Inv.lnew {its : List Value} {t' : Nat} (I : Inv X pins σ H s) (hv : Vals ys its) (hz : ys.length ≤ sizeLine) :
    Inv X pins σ (upd H s.heap.objs.size (.lst ys)) { s with heap := s.heap.push { cls := .type "list", data := .seq its.toArray }, toks := t' } :=
  I.laid (fun _ _ q => Heap.get?_push_of_some _ q) (Nat.le_refl _) ⟨hz, its, 0, hv, Heap.get?_push_size _ rfl⟩
theorem Inv.fresh (I : Inv X pins σ H s) : H s.heap.objs.size = none := I.hok.fresh (Nat.le_refl _)
theorem Inv.lstM (I : Inv X pins σ H s) (hH : H l = some (.lst xs)) : xs.length ≤ sizeLine ∧ ∃ (its : List Value) (n : Nat), Vals xs its ∧ xs.length = its.length ∧ s.heap.get? l = some { cls := .type "list", data := .seq its.toArray n } := by
  obtain ⟨z, its, n, r, e⟩ := I.hok l _ hH
  exact ⟨z, its, n, r, r.length, e⟩
end
section
variable {X : Cx}
noncomputable def rAppend : V → List V → Hp → VK → Prop := fun x vs H Q => ∃ l xs y, x = .ref l ∧ vs = [y] ∧ H l = some (.lst xs) ∧ xs.length < sizeLine ∧ Q .non (upd H l (.lst (xs ++ [y])))
theorem mt_append : MtM X "list.append" rAppend := by
  intro pins s σ H x vs v us Q I rx rv h
  obtain ⟨l, xs, y, rfl, rfl, hH, hz, q⟩ := h
  cases rx
  obtain ⟨u, rfl, ru⟩ := rv.one
  obtain ⟨z, its, n, r, hl, e⟩ := I.lstM hH
  refine call_meets F.slot_list_append ⟨_, e, rfl⟩ F.entry_list_append (F.args_list_append_2 _ _) (PySem.list_append l its.toArray n u (by rw [List.size_toArray]; omega)) ⟨e, ?_⟩
  refine ⟨.non, _, I.lset (its' := its ++ [u]) hH e (by simp) (r.append (.cons ru .nil)) ?_, rfl, q⟩
  rw [List.length_append, List.length_singleton]
  omega
end
section
variable {prog : Program} {w : World} {A : Around} {E : Value → Shared → Prop} {s : Shared}
end
section
variable {X : Cx}
end
end L2
namespace Att
open PySem PySem.W PySem.Calls PyProof.Rows
theorem ints_of_wellAll {P : Params} {h : Heap} : ∀ (ns : List Int) (vs : List Value), WellAll P h vs (ns.map WData.int) → IntsAre vs ns := by
  intro ns
  induction ns with
  | nil =>
    intro vs w
    rw [List.map_nil] at w
    cases w
    exact .nil
  | cons n ns ih =>
    intro vs w
    rw [List.map_cons] at w
    cases w with
    | cons a b =>
      cases a
      exact .cons _ _ (ih _ b)
theorem script_of {l : OpenLaw} {n : Nat} (hn : l.most = some n) {P : Params} {h : Heap} {args : List WData} {vals : List Value}
    (hpre : l.row.toRowW.claim.pre args = true) (hwl : WellAll P h vals args) :
    ∃ a vs ns, vals = [Value.ref a] ∧ args = [WData.list (ns.map WData.int)] ∧ h.get? a = some { cls := .type "list", data := .seq vs.toArray } ∧ IntsAre vs ns ∧ ns.length ≤ n := by
  have hsh : WShape.hasAll [] args [.list .int] = true := (pre_splitW hpre).1
  have hc : l.pre.holds [] { args := args } = true := (pre_splitW hpre).2
  obtain ⟨d, r, rfl, h1, h2⟩ := hasAllW_cons hsh
  obtain rfl := hasAllW_nil h2
  obtain ⟨xs, rfl, h3⟩ := hasW_list h1
  obtain ⟨ns, rfl⟩ := items_int h3
  have hlen : ns.length ≤ n := by
    unfold OpenLaw.pre at hc
    have h4 : (WTm.not (.lt (.lit (.int (n : Int))) (.len (.arg 0)))).holds [] { args := [.list (ns.map .int)] } = true := by
      have h4 := (holds_andW hc).1
      rw [hn] at h4
      exact h4
    have h5 := condW_of h4 (w_not (w_lt w_lit (w_len_list (w_arg rfl))))
    rw [List.length_map] at h5
    refine Nat.le_of_not_lt fun q => ?_
    have q' : (n : Int) < ((ns.length : Nat) : Int) := by omega
    first
      | (rw [decide_eq_true q'] at h5; exact absurd h5 (by decide))
      | (simp at h5; omega)
  cases hwl with
  | cons w1 w2 =>
    cases w2
    cases w1 with
    | list ho hall => exact ⟨_, _, ns, rfl, rfl, ho, ints_of_wellAll ns _ hall, hlen⟩
theorem post_true (l : OpenLaw) (args : List WData) : l.row.toRowW.claim.post args (.bool true) args = true :=
  postW_of (r := l.row.toRowW) (X := (true == true))
    (show WShape.has [] (.bool true) .bool = true by first | rfl | decide | simp [WShape.has, WShape.arms, WShape.armsAll])
    (show (WTm.eq .res (.lit (.bool true))).value [] { args := args, res := some (.bool true), after := args } = some (.bool (true == true)) from w_eq_bool (w_res rfl) w_lit) rfl
theorem attach_call {l : OpenLaw} {n : Nat} {q : Program} {loose : List Str} {XP : (Str → Option Value) → Heap → Prop} {YP : World → Heap → Prop} {d : DefRec}
    (hn : l.most = some n) (hdf : d.params.defaults = [])
    (call : ∀ (w : World) (s₀ s₁ : Shared) (mg mb : Str → Option Value) (fa : Addr) (o : Obj) (pm cd doc : Value) (a : Addr) (vs : List Value) (ns : List Int),
      Ground q loose [] XP w s₀ mg mb s₁.heap → YP w s₁.heap →
      s₁.heap.get? fa = some o → o.data = .func (docDef d.name d.params d.body d.scope pm cd doc) → s₁.heap.CodeRec cd d.name → mg d.name = some (.ref fa) →
      s₁.heap.get? a = some { cls := .type "list", data := .seq vs.toArray } → IntsAre vs ns → ns.length ≤ n → s₁.gens = #[] →
      codeAny (model l.prog w) callerA (.call (.ref fa) ⟨[.ref a], []⟩) (fun r s' => r = .ok (.ret (.bool true)) ∧ OldK s₁.heap s'.heap ∧ s'.os = s₁.os ∧ AllBare s'.gens) s₁) :
    WalkO q loose XP YP l.row.toRowW d [] (fun f vs => PySem.call f vs) := by
  intro w s₀ s₁ mg mb G Y fa o pm cd doc dV kV ho hd hcd hD hmg hg args vals as hpre hlay hrd hwl hlo
  obtain rfl : dV = .none := Dflts.none hD hdf
  obtain rfl : kV = .none := Dflts.noKw hD
  obtain ⟨a, vs, ns, rfl, rfl, hobj, hints, hlen⟩ := script_of hn hpre hwl
  refine enter_call (codeAny_mono (call w s₀ s₁ mg mb fa o pm cd doc a vs ns G Y ho (fd_plain hd) hcd hmg hobj hints hlen hg) fun r s' hq => ?_)
  obtain ⟨rfl, h2, h3, h4⟩ := hq
  exact ⟨.inl ⟨.bool true, .bool true, [], rfl, fun _ => rfl, .bool true, post_true l _, fun _ => ⟨List.Pairwise.nil, fun _ hm => (nomatch hm)⟩⟩, h2, h3, h4⟩
section
variable {prog : Program} {w : World} {A : Around} {E : Value → Shared → Prop} {s : Shared} {K : Frag}
noncomputable def ledger (h : Heap) (L d : Addr) : List (Addr × Obj) := (List.range h.objs.size).filterMap fun a => if a = L ∨ a = d then none else (h.get? a).map fun o => (a, o)
end
end Att
namespace L2
open PySem PySem.Spec PyProof.Rows
theorem vals_ints : ∀ {vs : List Value} {ns : List Int}, IntsAre vs ns → Vals (ns.map V.int) vs
  | _, _, .nil => .nil
  | _, _, .cons n t h => .cons ⟨t, rfl⟩ (vals_ints h)
noncomputable def Only (H : Hp) : Prop := ∀ b, H b = none ∨ ∃ o xs, H b = some (.frz o (.lst xs))
theorem law_call {P : Program} {w : World} {K : PySem.W.Frag} {mg mb : Str → Option Value} {CX : CXT} {k : Nat} {fa a : Addr} {fd : FuncData} {x : Str} {sp : Sp} {s₁ : Shared} {vs : List Value} {ns : List Int}
    (KX : K.In s₁.heap) (hns : s₁.heap.Ns mainGlobals mg) (hb : s₁.heap.Ns builtinsNs mb) (hbb : ∀ x : Str, x ≠ "__name__" → mb x = bootBuiltins x) (hlim : s₁.heap.NoLimit) (hg : s₁.gens = #[])
    (ha : s₁.heap.get? a = some { cls := .type "list", data := .seq vs.toArray }) (hi : IntsAre vs ns) (hl : ns.length ≤ sizeLine) (hr : Room k callerA)
    (F : ∀ base : Heap, K.In base → base.Ns mainGlobals mg → FnOk P w K mg base CX k fa fd [x] sp) (hbind : ∀ (s : Shared) (u : Value), BindsTo s fd ⟨[u], []⟩ [(x, u)])
    (hsp : ∀ H : Hp, Only H → SqL K H a (ns.map V.int) → sp [.ref a] H (fun v _ => v = .bl true) fun _ _ _ => False)
    (hCX : ∀ H e s', CX [] H s₁ (fun _ _ _ => False) e s' → False) :
    codeAny (model P w) callerA (.call (.ref fa) ⟨[.ref a], []⟩) (fun r s' => r = .ok (.ret (.bool true)) ∧ OldK s₁.heap s'.heap ∧ s'.os = s₁.os ∧ AllBare s'.gens) s₁ := by
  have rv := vals_ints hi
  have lenV := hi.length
  -- from an abstract heap in which nothing but the script may be tracked
  have core : ∀ H : Hp, Only H → SqL K H a (ns.map V.int) → HOk P w H s₁.heap → (∀ b, H b ≠ none → b = a) → (H a ≠ none → K.lookup a = none) →
      codeAny (model P w) callerA (.call (.ref fa) ⟨[.ref a], []⟩) (fun r s' => r = .ok (.ret (.bool true)) ∧ OldK s₁.heap s'.heap ∧ s'.os = s₁.os ∧ AllBare s'.gens) s₁ := by
    intro H hO hS hok hA hK
    have base_of : ∀ {b : Addr} {o : Obj}, s₁.heap.get? b = some o → H b = none → (hidT s₁.heap H).get? b = some o := fun e n => hidT_get e n
    have noA : ∀ {b : Addr} {o : Obj} {es : Array DictEntry} {ep : Nat}, s₁.heap.get? b = some o → o.data = .dict es ep → H b = none := fun {b o es ep} e d => by
      cases q : H b with
      | none => rfl
      | some u =>
        have e' : b = a := hA b (by rw [q]; simp)
        subst e'
        rw [ha] at e; cases e
        have d' : Data.seq vs.toArray _ = Data.dict es ep := d
        cases d'
    have nsK : ∀ {b : Addr} {m : Str → Option Value}, s₁.heap.Ns b m → (hidT s₁.heap H).Ns b m := fun {b m} ⟨o, es, ep, e, d, r⟩ => ⟨o, es, ep, base_of e (noA e d), d, r⟩
    have hKb : K.In (hidT s₁.heap H) := fun b o e => base_of (KX b o e) (by
      cases q : H b with
      | none => rfl
      | some u =>
        have e' : b = a := hA b (by rw [q]; simp)
        subst e'
        rw [hK (by rw [q]; simp)] at e; cases e)
    have hM : Mod K mg (hidT s₁.heap H) := ⟨hKb, nsK hns, ⟨mb, nsK hb, hbb⟩, let ⟨mc, h1, h2⟩ := hlim; ⟨mc, nsK h1, h2⟩⟩
    have e0 : Env0 P w K mg (hidT s₁.heap H) callerA [] s₁ H := ⟨rfl, hM, fun b o e => of_hidT e, Nat.le_of_eq (hidT_size _ _), trivial, fun b hb => absurd (show b ∈ ([] : List Addr) from hb) (by simp), hok, .of_eq hg⟩
    refine codeAny_mono ((F _ hKb (nsK hns)).run callerA [] s₁ H ⟨[.ref a], []⟩ [.ref a] [.ref a] _ _ hr e0 (hbind s₁ (.ref a)) (.cons rfl .nil) (hsp H hO hS)) fun r s' h => ?_
    cases r with
    | error e => exact (hCX H e s' h).elim
    | ok fl =>
      cases fl with
      | next => exact False.elim h
      | brk => exact False.elim h
      | cont => exact False.elim h
      | ret u =>
        obtain ⟨v, H', os, bare, un, hok', r', q⟩ := h
        have q' : v = .bl true := q
        subst q'
        obtain rfl : u = Value.bool true := r'
        refine ⟨rfl, OldK.of_keep fun b o e => ?_, os, bare⟩
        cases q : H b with
        | none => exact un.keep b o e q (by intro z; exact absurd (show b ∈ ([] : List Addr) from z) (by simp)) (by simp)
        | some u =>
          rcases hO b with z | ⟨ob, xs, z⟩
          · rw [q] at z; cases z
          · have z2 := un.frzs b ob _ z
            obtain ⟨e1, _⟩ := hok b _ z
            obtain ⟨e2, _⟩ := hok' b _ z2
            rw [e] at e1; cases e1
            exact e2
  cases hk : K.lookup a with
  | some o =>
    -- the script is one of the module's own objects
    have e := KX a o hk
    rw [ha] at e
    cases e
    refine core (fun _ => none) (fun _ => .inl rfl) (.inr ⟨_, vs.toArray, _, hk, rfl, rfl, rfl, by rw [List.size_toArray, lenV]; exact hl, by simpa using rv⟩) (fun b u z => by have z' : (none : Option HO) = some u := z; cases z') (fun b z => absurd rfl z) fun z => absurd rfl z
  | none =>
    refine core (fun b => if b = a then some (.frz { cls := .type "list", data := .seq vs.toArray } (.lst (ns.map V.int))) else none) (fun b => ?_) (.inl (.inr ⟨{ cls := .type "list", data := .seq vs.toArray }, if_pos rfl⟩)) (fun b u z => ?_) (fun b z => ?_) fun _ => hk
    · by_cases hb : b = a
      · exact .inr ⟨_, _, if_pos hb⟩
      · exact .inl (if_neg hb)
    · by_cases hb : b = a
      · have z' := (if_pos hb).symm.trans z
        cases z'
        subst hb
        exact ⟨ha, by rw [List.length_map]; exact hl, vs, _, rv, ha⟩
      · have z' := (if_neg hb).symm.trans z
        cases z'
    · by_cases hb : b = a
      · exact hb
      · exact absurd (if_neg hb) z
end L2
namespace L2
open PySem PySem.Spec PyProof.Rows
abbrev KOf {K : PySem.W.Frag} {h : Heap} (_ : K.In h) : PySem.W.Frag := K
theorem walk_of {l : PySem.W.OpenLaw} {n k : Nat} {q : Program} {loose : List Str} {XP : (Str → Option Value) → Heap → Prop} {YP : World → Heap → Prop} {d : DefRec} {K : Params → PySem.W.Frag} {CX : World → CXT} {sp : World → Sp} {x : Str}
    (hn : l.most = some n) (hn2 : n ≤ sizeLine) (hdf : d.params.defaults = []) (hr : Room k callerA)
    (hY : ∀ (w : World) (h : Heap), YP w h → (K w.params).In h)
    (F : ∀ (w : World) (mg : Str → Option Value) (fa : Addr) (h : Heap), (K w.params).In h → h.Ns mainGlobals mg → mg d.name = some (.ref fa) →
      ∃ fd : FuncData, (∀ (s : Shared) (u : Value), BindsTo s fd ⟨[u], []⟩ [(x, u)]) ∧
        ∀ base : Heap, (K w.params).In base → base.Ns mainGlobals mg → FnOk l.prog w (K w.params) mg base (CX w) k fa fd [x] (sp w))
    (hsp : ∀ (w : World) (H : Hp) (a : Addr) (ns : List Int), ns.length ≤ n → Only H → SqL (K w.params) H a (ns.map V.int) → sp w [.ref a] H (fun v _ => v = .bl true) fun _ _ _ => False)
    (hCX : ∀ (w : World) (H : Hp) (s : Shared) (e : Value) (s' : Shared), CX w [] H s (fun _ _ _ => False) e s' → False) :
    PySem.W.WalkO q loose XP YP l.row.toRowW d [] (fun f vs => PySem.call f vs) := by
  refine Att.attach_call hn hdf fun w s₀ s₁ mg mb fa o pm cd doc a vs ns G Y ho hd hcd hmg hobj hints hlen hg => ?_
  have KX := hY w _ Y
  obtain ⟨fd, hb, hF⟩ := F w mg fa _ KX G.T.g hmg
  exact law_call KX G.T.g G.T.b G.T.builtins G.T.nolimit hg hobj hints (Nat.le_trans hlen hn2) hr hF hb (fun H hO hS => hsp w H a ns hlen hO hS) fun H e s' => hCX w H s₁ e s'
end L2
/- THE LAST THEOREM (shape; LID, My.* are yours):
   My.Adr: a structure of the addresses that your layer names (classes, functions); My.Txt K t: a structure (Prop) of the equations over K;
   My.txt_mk : {K} {implicit addresses ..} (e1 : nsIn K mainGlobals "law" = some (some (.ref f))) (e2 : K.lookup f = some ⟨oc, od, .func (fnOf "law" "law" params body scope dV kV doc pm an cdv ct), sl⟩) (e3 : codeIn K cdv "law" = true) .. : ∃ t, My.Txt K t
set_option maxRecDepth 100000 in
set_option maxHeartbeats 0 in
theorem PySem.Challenge.cw_LID_holds : PySem.Challenge.rw_LID.Holds := by
  w_on; o_law; k_head; (case hw => w_witness2)
  k_fill
  refine L2.walk_of (l := PySem.Challenge.rw_LID) (n := 63) (k := 40) (x := "script") (CX := fun w => ..) (sp := fun _ => My.sp_law) rfl (by decide) rfl ⟨rfl, by decide, by decide⟩ (fun w h Y => PySem.W.kIn_of Y) ?F ?S ?C
  case F =>
    intro w mg fa h KX G hmg
    have T : ∃ t, My.Txt (L2.KOf KX) t := by
      dsimp only [L2.KOf]                          -- K must stand as «<heap const> w.params» for k_is
      refine' My.txt_mk ?e1 ?e2 ?e3 ..
      (case e1 => PySem.W.k_is)                    -- in the order: a name -> its address -> its object -> its parts
      (case e2 => PySem.W.k_is)
      ..
    obtain ⟨t, T⟩ := T
    have e0 := hmg.symm.trans (PySem.W.mg_of KX G T.law)
    cases e0                                       -- fa is the law's own address
    exact ⟨_, fun s u => .of_eq rfl, fun base kb nb => My.law_fn T kb nb⟩     -- if «.of_eq rfl» comes too early: refine' ⟨_, ?b, fun base kb nb => My.law_fn T kb nb⟩; exact fun s u => .of_eq rfl
  case S => exact fun w H a ns hl hO hS => ..
  case C => exact ..
(the tactic k_is has no namespace: write k_is) -/
namespace L2
open PySem PySem.Spec PyProof.Rows
noncomputable def defArgs (s : Stmt) : Arguments := match s with
  | .FunctionDef _ a _ _ _ _ _ _ _ _ => a
  | _ => { posonlyargs := [], args := [], vararg := none, kwonlyargs := [], kw_defaults := [], kwarg := none, defaults := [] }
noncomputable def defBody (s : Stmt) : List Stmt := match s with
  | .FunctionDef _ _ b _ _ _ _ _ _ _ => b
  | _ => []
noncomputable def defScope (s : Stmt) : Scope := match s with
  | .FunctionDef _ _ _ _ _ _ sc _ _ _ => sc
  | _ => { kind := .function, names := [], isGenerator := false, isCoroutine := false }
abbrev CX0 : CXT := fun _ _ _ _ _ _ => False
abbrev E0 : XK := fun _ _ _ => False
theorem pass0 {X : Cx} : Passes CX0 X E0 := fun _ _ _ _ _ _ _ h => h.elim
structure Fun (K : PySem.W.Frag) (x qual : Str) (st : Stmt) (f : Addr) (fd : FuncData) : Prop where
  ex : ∃ (oc : Value) (od : Option Addr) (kV doc pm : Value) (an : Option Addr) (cdv ct : Value) (osl : Array (Option Value)),
    fd = PySem.W.fnOf x qual (defArgs st) (defBody st) (defScope st) .none kV doc pm an cdv ct ∧ K.lookup f = some ⟨oc, od, .func fd, osl⟩ ∧ PySem.W.codeIn K cdv qual = true
  kp : PySem.W.keepIn K (.ref f) = true
section
variable {P : Program} {w : World} {K : PySem.W.Frag} {mg : Str → Option Value} {base : Heap}
theorem Fun.ok {x qual : Str} {st : Stmt} {f : Addr} {fd : FuncData} {N ps : List Str} {k : Nat} {sp : Sp} (F : Fun K x qual st f fd) (S : FnScope N ps (defScope st)) (len : ∀ vs H Q E, sp vs H Q E → vs.length = ps.length)
    (hbody : ∀ (cdv : Value) (A : Around) (outer : List Env) (s : Shared) (H : Hp) (vs : List V) (Q : VK) (E : XK), Room k (A.deeper (envOfC qual (defScope st) s.heap.objs.size f cdv)) → sp vs H Q E →
      ∃ t, PSs (cxOf CX0 P w K mg base N qual (defScope st) f cdv A outer s H E).nox (defBody st) t ∧ t { nx := fun _ H' => Q .non H', rt := Q } (start N vs) H) : FnOk P w K mg base CX0 (k + 1) f fd ps sp := by
  obtain ⟨oc, od, kV, doc, pm, an, cdv, ct, osl, rfl, lk, hcd⟩ := F.ex
  refine fn_of lk hcd S len fun A outer s H vs Q E hr hsp => ?_
  obtain ⟨t, h, q⟩ := hbody cdv A outer s H vs Q E hr hsp
  exact ⟨t, h.nox, q⟩
theorem Fun.binds {x qual : Str} {st : Stmt} {f : Addr} {fd : FuncData} {ps : List Str} (F : Fun K x qual st f fd)
    (h : ∀ (kV doc pm : Value) (an : Option Addr) (cdv ct : Value) (us : List Value), us.length = ps.length → bindArgs (PySem.W.fnOf x qual (defArgs st) (defBody st) (defScope st) .none kV doc pm an cdv ct) ⟨us, []⟩ = pure (ps.zip us)) : Binds K fd ps [] := by
  obtain ⟨oc, od, kV, doc, pm, an, cdv, ct, osl, rfl, lk, hcd⟩ := F.ex
  exact .all (h kV doc pm an cdv ct)
theorem fun_mk {x qual : Str} {st : Stmt} {f : Addr} {oc : Value} {od an : Option Addr} {osl : Array (Option Value)} {kV doc pm cdv ct : Value} (l : K.lookup f = some ⟨oc, od, .func (PySem.W.fnOf x qual (defArgs st) (defBody st) (defScope st) .none kV doc pm an cdv ct), osl⟩)
    (c : PySem.W.codeIn K cdv qual = true) (k : PySem.W.keepIn K (.ref f) = true) : Fun K x qual st f (PySem.W.fnOf x qual (defArgs st) (defBody st) (defScope st) .none kV doc pm an cdv ct) := ⟨⟨oc, od, kV, doc, pm, an, cdv, ct, osl, rfl, l, c⟩, k⟩
end
section
variable {X : Cx}
end
theorem iteF {A B : Prop} (h : B) : if false = true then A else B := by
  rw [if_neg Bool.false_ne_true]
  exact h
theorem iteT {A B : Prop} (h : A) : if true = true then A else B := by
  rw [if_pos rfl]
  exact h
noncomputable def Same (H H' : Hp) : Prop := ∀ b o, H b = some o → H' b = some o
theorem Same.refl (H : Hp) : Same H H := fun _ _ h => h
theorem Same.trans {H H1 H2 : Hp} (a : Same H H1) (b : Same H1 H2) : Same H H2 := fun c o h => b c o (a c o h)
theorem Same.free {H H' : Hp} (e : Same H H') {l : Addr} (h : H' l = Option.none) : H l = Option.none := by
  cases q : H l with
  | none => rfl
  | some o =>
    rw [e l o q] at h
    cases h
theorem Same.seq {K : PySem.W.Frag} {H H' : Hp} {a : Addr} {xs : List V} (e : Same H H') (h : SqL K H a xs) : SqL K H' a xs := by
  rcases h with (h | ⟨o, h⟩) | h
  · exact .inl (.inl (e _ _ h))
  · exact .inl (.inr ⟨o, e _ _ h⟩)
  · exact .inr h
end L2
end
section
namespace L2
open PySem PySem.Spec PyProof.Rows
abbrev TU := St → Hp → (St → Hp → Prop) → Prop
noncomputable def PU (X : Cx) (m : Sem Unit) (t : TU) : Prop :=
  ∀ (pins : List (Addr × Obj)) (s : Shared) (σ : St) (H : Hp) (Q : St → Hp → Prop), Inv X pins σ H s → t σ H Q →
    wpAny (model X.prog X.w) X.A m (fun _ s' => ∃ σ' H', Inv X pins σ' H' s' ∧ Q σ' H') X.xe s
noncomputable def PTs (X : Cx) (ifs : List Expr) (t : TT) : Prop :=
  ∀ (pins : List (Addr × Obj)) (s : Shared) (σ : St) (H : Hp) (Q : Bool → Hp → Prop), Inv X pins σ H s → t σ H Q →
    wpAny (model X.prog X.w) X.A (forIn ifs true fun c r => if r = true then do let ok ← isTrue c X.env (eval c X.env); pure (ForInStep.yield ok) else pure (ForInStep.yield r)) (TP X pins σ Q) X.xe s
section
variable {X : Cx}
theorem pts_nil : PTs X [] (fun _ H Q => Q true H) := fun pins s σ H Q I h => wpAny_tests_nil ⟨H, I, h⟩
theorem pts_one {c : Expr} {t : TT} (hc : PT X c t) : PTs X [c] t := fun pins s σ H Q I h => wpAny_tests_one (hc pins s σ H Q I h)
noncomputable def tLp (J : It) (g : TG) (tt : TT) (tb : TU) : TU := fun σ H Q => ∃ W : Nat → Nat → St → Hp → Prop, (∃ m, W 0 m σ H) ∧ ∀ i m σ H, W i m σ H →
  (J.stop i H ∧ Q σ H) ∨ (J.go i H ∧ ∀ x H', J.yld i H x H' → g x σ H' fun σ2 H2 => tt σ2 H2 fun b H3 =>
    if b = true then tb σ2 H3 fun σ4 H4 => ∃ m', m' < m ∧ W (i + 1) m' σ4 H4 else ∃ m', m' < m ∧ W (i + 1) m' σ2 H3)
theorem cloop {e tg : Expr} {d : Nat} {ifs : List Expr} {ip : Pos} {it : Addr} {acc : Value} {body : Sem Unit} {J : It} {fp : List Addr} {tn : Nat → Heap → Prop} {g : TG} {tt : TT} {tb : TU}
    (hx : X.xe = fun _ _ => False) (hc : X.calm = true)
    (hq : (Code.compLoop e d (.ref it) acc X.env).quiet = true)
    (hden : (model X.prog X.w).den (.compLoop e d (.ref it) acc X.env) = (compTurn e d (.ref it) acc X.env).onRaise (fun x => do noteFrame x X.env; theTreesLotGoes x))
    (hund : X.A.under (.compLoop e d (.ref it) acc X.env) = X.A)
    (hturn : compTurn e d (.ref it) acc X.env = (do
      standAt ip
      match ← pyNext (.ref it) with
      | none => pure (.done .next)
      | some v =>
        letOwnedTupleGo tg (.ref it) v
        assign tg X.env v
        let mut ok := true
        for c in ifs do
          if ok then ok ← isTrue c X.env (eval c X.env)
        if ok then body
        again (.compLoop e d (.ref it) acc X.env)))
    (T : Turn X.prog X.w X.K tg J fp it tn) (hg : PG X tg g) (ht : PTs X ifs tt) (hb : PU X body tb) {R : Result → Shared → Prop}
    {pins : List (Addr × Obj)} {s : Shared} {σ : St} {H : Hp} {Q : St → Hp → Prop} (I : Inv X pins σ H s) (st : tn 0 s.heap) (f : ∀ b ∈ fp, FpOk X pins H b) (h : tLp J g tt tb σ H Q)
    (hR : ∀ s' σ' H', Inv X pins σ' H' s' → Q σ' H' → R (.ok .next) s') : codeAny (model X.prog X.w) X.A (.compLoop e d (.ref it) acc X.env) R s := by
  obtain ⟨W, ⟨m0, w0⟩, turn⟩ := h
  have stat : ∀ {H' : Hp}, (∀ b ∈ fp, H' b = none) → ∀ b ∈ fp, FpOk X pins H' b := fun hn b hb => ⟨hn b hb, (f b hb).2⟩
  refine codeAny_loop hq (fun n s' => ∃ i σ' H', Inv X pins σ' H' s' ∧ tn i s'.heap ∧ (∀ b ∈ fp, H' b = none) ∧ W i n σ' H') ?_ m0 ⟨0, σ, H, I, st, fun b hb => (f b hb).1, w0⟩
  rintro n s3 ⟨i, σ3, H3, I3, st3, fr3, w3⟩
  rw [hden, hund, hturn]
  refine wpAny_noted ?_
  have cut : ∀ {α : Type} {m : Sem α} {Q : α → Shared → Prop} {s : Shared} {E' : Value → Shared → Prop}, wpAny (model X.prog X.w) X.A m Q X.xe s → wpAny (model X.prog X.w) X.A m Q E' s := fun z => by
    rw [hx] at z
    exact wpAny_noRaise z
  refine wpAny_bind (wpAny_standAt (wpAny_bind ?_))
  rcases turn i n σ3 H3 w3 with ⟨stop, qn⟩ | ⟨go, step⟩
  · refine cut (thn (T.done X rfl rfl rfl hc i pins s3 σ3 H3 X.xe I3 (stat fr3) st3 stop) fun r s4 ⟨hr, I4⟩ => ?_)
    subst hr
    exact wpAny_pure (hR s4 σ3 H3 I4 qn)
  · refine cut (thn (T.item X rfl rfl rfl hc i pins s3 σ3 H3 X.xe I3 (stat fr3) st3 go) fun r s4 ⟨u, hr, h4⟩ => ?_)
    subst hr
    refine wpAny_bind (cut (thn h4 fun _ s5 ⟨x, H5, I5, r5, y5, st5, fr5⟩ => ?_))
    have I5' := I5.pinned (stat fr5) (T.obj _ _ st5)
    refine wpAny_bind (cut (thn (hg _ s5 σ3 H5 x u _ I5' r5 (step x H5 y5)) fun _ s6 ⟨σ6, H6, I6, q6⟩ => ?_))
    have again : ∀ {σ7 : St} {H7 : Hp} {s7 : Shared}, Inv X (pins ++ pinsAt fp s5.heap) σ7 H7 s7 → (∃ m', m' < n ∧ W (i + 1) m' σ7 H7) → ∃ m, m < n ∧ ∃ i σ' H', Inv X pins σ' H' s7 ∧ tn i s7.heap ∧ (∀ b ∈ fp, H' b = none) ∧ W i m σ' H' := fun {σ7 H7 s7} I7 n7 => by
      obtain ⟨m', hm, w7⟩ := n7
      refine ⟨m', hm, i + 1, σ7, H7, I7.unpinned, T.keep _ _ _ st5 fun b hb o e => (I7.pin (b, o) (List.mem_append_right _ (List.mem_append_right _ (mem_pinsAt hb e)))).1, fun b hb => ?_, w7⟩
      obtain ⟨o, e, d⟩ := T.obj _ _ st5 b hb
      exact (I7.pin (b, o) (List.mem_append_right _ (List.mem_append_right _ (mem_pinsAt hb e)))).2.1
    refine wpAny_bind (cut (thn (ht _ s6 σ6 H6 _ I6 q6) fun ok s7 ⟨H7, I7, q7⟩ => ?_))
    cases ok with
    | false =>
      rw [if_neg Bool.false_ne_true] at q7
      exact wpAny_pure ⟨rfl, again I7 q7⟩
    | true =>
      rw [if_pos rfl] at q7
      refine wpAny_bind (cut (thn (hb _ s7 σ6 H7 _ I7 q7) fun _ s8 ⟨σ8, H8, I8, q8⟩ => ?_))
      exact wpAny_pure ⟨rfl, again I8 q8⟩
end
end L2
end
section
namespace L2
open PySem PySem.Spec PyProof.Rows
noncomputable def cloF (env : Env) : List (Str × NameKind) → List (Str × Addr) → List (Str × Addr)
  | [], cs => cs
  | (n, k) :: r, cs => cloF env r (if k == .free then (n, (env.cells.lookup n).getD 0) :: cs else cs)
theorem clo_run {env : Env} : ∀ (names : List (Str × NameKind)) (cs : List (Str × Addr)), (∀ x, (x, NameKind.free) ∈ names → ∃ c, env.cells.lookup x = some c) →
    (forIn names cs fun x r => match x with | (name, kind) => (do
      if (kind == NameKind.free) = true then do
        let y ← cellOf env name
        pure (ForInStep.yield ((name, y) :: r))
      else pure (ForInStep.yield r) : Sem (ForInStep (List (Str × Addr))))) = (pure (cloF env names cs) : Sem (List (Str × Addr)))
  | [], cs, _ => rfl
  | (n, k) :: r, cs, h => by
    have ih := fun cs => clo_run (env := env) r cs fun x hx => h x (List.mem_cons_of_mem _ hx)
    rw [List.forIn_cons]
    by_cases hk : k = .free
    · subst hk
      obtain ⟨c, e⟩ := h n List.mem_cons_self
      have e2 : cellOf env n = pure c := by unfold cellOf; rw [e]
      simp only [beq_self_eq_true, if_true, e2, pure_bind, cloF, e, Option.getD_some]
      exact ih _
    · have hb : (k == NameKind.free) = false := by simpa using hk
      simp only [hb, Bool.false_eq_true, if_false, pure_bind, cloF]
      exact ih _
theorem clo_of {env : Env} {scope : Scope} (h : ∀ x, (x, NameKind.free) ∈ scope.names → ∃ c, env.cells.lookup x = some c) : closureFor scope env = pure (cloF env scope.names []) := by
  have q := clo_run (env := env) scope.names [] h
  unfold closureFor
  rw [← bind_pure (pure (cloF env scope.names []) : Sem _), ← q]
theorem clo_mem {env : Env} : ∀ (names : List (Str × NameKind)) (cs : List (Str × Addr)), (∀ x, (x, NameKind.free) ∈ names → ∃ c, env.cells.lookup x = some c) → ∀ p ∈ cloF env names cs, p ∈ cs ∨ env.cells.lookup p.1 = some p.2
  | [], cs, _, p, hp => .inl hp
  | (n, k) :: r, cs, h, p, hp => by
    unfold cloF at hp
    have ih := clo_mem (env := env) r _ (fun x hx => h x (List.mem_cons_of_mem _ hx)) p hp
    rcases ih with ih | ih
    · by_cases hk : k = .free
      · subst hk
        rw [if_pos (by simp)] at ih
        rcases List.mem_cons.mp ih with rfl | ih
        · obtain ⟨c, e⟩ := h n List.mem_cons_self
          right
          rw [e]; rfl
        · exact .inl ih
      · rw [if_neg (by simpa using hk)] at ih
        exact .inl ih
    · exact .inr ih
theorem clo_has {env : Env} : ∀ (names : List (Str × NameKind)) (cs : List (Str × Addr)) (x : Str), ((x, NameKind.free) ∈ names ∨ ∃ c, (x, c) ∈ cs) → ∃ c, (x, c) ∈ cloF env names cs
  | [], cs, x, h => by
    rcases h with h | h
    · cases h
    · exact h
  | (n, k) :: r, cs, x, h => by
    unfold cloF
    refine clo_has (env := env) r _ x ?_
    rcases h with h | ⟨c, h⟩
    · rcases List.mem_cons.mp h with e | h
      · cases e
        right
        rw [if_pos (by simp)]
        exact ⟨_, List.mem_cons_self⟩
      · exact .inl h
    · right
      split
      · exact ⟨c, List.mem_cons_of_mem _ h⟩
      · exact ⟨c, h⟩
theorem lookup_of_mem {α : Type} : ∀ {l : List (Str × α)} {x : Str} {c : α}, (x, c) ∈ l → ∃ d, l.lookup x = some d
  | [], _, _, h => by cases h
  | (y, d) :: r, x, c, h => by
    rw [List.lookup_cons]
    cases e : x == y with
    | true => exact ⟨d, rfl⟩
    | false =>
      rcases List.mem_cons.mp h with q | q
      · cases q; simp at e
      · exact lookup_of_mem q
structure CScope (X : Cx) (scope : Scope) : Prop where
  kind : scope.kind = .function
  nocell : ∀ y ∈ scope.names, y.2 ≠ .cell
  names : ∀ y ∈ scope.names, y.2 = .local → scope.names.lookup y.1 = some .local
  free : ∀ x, (x, NameKind.free) ∈ scope.names → X.env.kindOf x = some .cell ∨ X.env.kindOf x = some .free
noncomputable def cxC (X : Cx) (scope : Scope) (cl : List (Str × Addr)) (C : Addr) (Nc : List Str) (s : Shared) (H : Hp) (fp : List Addr) : Cx :=
  { X with N := Nc, s₀ := s, H₀ := H, env := compEnvC scope cl C X.env, outer := X.stack, ex := fp, fn := fun _ => false, pn := [], xe := fun _ _ => False }
theorem relabel_lookup {scope : Scope} {env : Env} : ∀ (names : List (Str × NameKind)) (x : Str),
    (names.map fun (n, k) => if (k == NameKind.free && env.scope.kind == .function && env.kindOf n == some .cell) then (n, NameKind.cell) else (n, k)).lookup x =
      (names.lookup x).map fun k => if (k == NameKind.free && env.scope.kind == .function && env.kindOf x == some .cell) then NameKind.cell else k
  | [], x => rfl
  | (n, k) :: r, x => by
    have ih := relabel_lookup (scope := scope) (env := env) r x
    rw [List.map_cons]
    cases hx : x == n with
    | true =>
      have e : x = n := by simpa using hx
      subst e
      by_cases hc : (k == NameKind.free && env.scope.kind == .function && env.kindOf x == some .cell) = true
      · simp only [hc, if_true, List.lookup_cons, beq_self_eq_true, Option.map_some]
      · simp only [hc, if_false, List.lookup_cons, beq_self_eq_true, Option.map_some, Bool.false_eq_true]
    | false =>
      by_cases hc : (k == NameKind.free && env.scope.kind == .function && env.kindOf n == some .cell) = true
      · simp only [hc, if_true, List.lookup_cons, hx]
        exact ih
      · simp only [hc, if_false, List.lookup_cons, hx, Bool.false_eq_true]
        exact ih
theorem comp_kind {scope : Scope} {env : Env} {cl : List (Str × Addr)} {C : Addr} (x : Str) : (compEnvC scope cl C env).kindOf x =
    (scope.names.lookup x).map fun k => if (k == NameKind.free && env.scope.kind == .function && env.kindOf x == some .cell) then NameKind.cell else k := relabel_lookup (scope := scope) (env := env) scope.names x
theorem comp_cellfree {scope : Scope} {env : Env} {cl : List (Str × Addr)} {C : Addr} {x : Str} (nc : ∀ y ∈ scope.names, y.2 ≠ .cell) (h : (compEnvC scope cl C env).kindOf x = some .cell ∨ (compEnvC scope cl C env).kindOf x = some .free) :
    scope.names.lookup x = some .free := by
  rw [comp_kind] at h
  cases e : scope.names.lookup x with
  | none => rw [e] at h; simp at h
  | some k =>
    rw [e] at h
    have hm := PySem.mem_of_lookup e
    have := nc _ hm
    simp only [Option.map_some] at h
    cases k <;> simp_all
theorem inv_block {X : Cx} {scope : Scope} {C : Addr} {Nc : List Str} {s : Shared} {h1 : Heap} {t1 : Nat} {H : Hp} {fp : List Addr} {pins : List (Addr × Obj)} {σ : St}
    (S : CScope X scope) (I : Inv X pins σ H s) (hf : ∀ b ∈ fp, FpOk X pins H b) (hfl : ∀ b ∈ fp, b < s.heap.objs.size) (hC : C = s.heap.objs.size) (hns : h1.Ns C fun _ => none) (hk : ∀ b o, s.heap.get? b = some o → h1.get? b = some o)
    (hN : ∀ i x, i < X.N.length → Nc[i]? = some x → Vis scope x → X.N[i]? = some x ∧ scope.names.lookup x = some .free) (hl : X.N.length ≤ Nc.length) :
    Inv (cxC X scope (cloF X.env scope.names []) C Nc s H fp) [] (σ ++ List.replicate (Nc.length - X.N.length) none) H { s with heap := h1, toks := t1 } := by
  have hcl : ∀ x, (x, NameKind.free) ∈ scope.names → ∃ c, X.env.cells.lookup x = some c := fun x hx => I.ok.has x (S.free x hx)
  have hlk : ∀ x c, (cloF X.env scope.names []).lookup x = some c → X.env.cells.lookup x = some c := fun x c e => by
    have := clo_mem scope.names [] hcl _ (PySem.mem_of_lookup e)
    rcases this with z | z
    · cases z
    · exact z
  subst hC
  have neC : ∀ x c, (cloF X.env scope.names []).lookup x = some c → c < s.heap.objs.size := fun x c e => by
    obtain ⟨v, z⟩ := I.cell x c (hlk x c e)
    exact z.lt
  refine ⟨⟨I.ok.mod, S.kind, I.ok.glob, I.ok.blt, Nat.le_refl _, fun x y c e1 e2 => I.ok.inj x y c (hlk x c e1) (hlk y c e2), fun x hx => ?_, fun x c z _ => absurd z Bool.false_ne_true, I.ok.hd, I.ok.frames, .inl rfl, fun b hb => ⟨Nat.ne_of_lt (hfl b hb), fun x c e => (hf b hb).2.2.2.2.1 x c (hlk x c e)⟩,
      I.bs, Nat.le_trans I.ok.bsz I.sz, fun b o e hb => ?_, fun b hb hz => ?_, I.stack, I.stkFree⟩, rfl, I.bare, Un.kept hk, ⟨_, hns, fun i x v e1 e2 e3 => ?_⟩, fun x c e => ?_, I.hok.fresh (Nat.le_refl _), fun x c e => I.freeC x c (hlk x c e), fun p hp => absurd (show p ∈ ([] : List (Addr × Obj)) from hp) (by simp), I.hok.kept hk, ?_⟩
  · have q := comp_cellfree (cl := cloF X.env scope.names []) (C := s.heap.objs.size) S.nocell hx
    obtain ⟨c, hm⟩ := clo_has (env := X.env) scope.names [] x (.inl (PySem.mem_of_lookup q))
    exact lookup_of_mem hm
  · obtain ⟨_, _, _, f3, _⟩ := hf b hb
    rcases f3 with z | z
    · exact I.ok.noex b o e z
    · exact absurd (Nat.lt_of_lt_of_le (Heap.lt_size e) (Nat.le_trans I.ok.bsz z)) (Nat.lt_irrefl _)
  · obtain ⟨_, f1, f2, _⟩ := hf b hb
    rcases List.mem_cons.mp (I.stkSub b hz) with q | q
    · exact f1 q
    · exact f2 q
  · have e1 : Nc[i]? = some x := e1
    have hi : i < X.N.length := by
      by_cases hi : i < X.N.length
      · exact hi
      · rw [List.getElem?_append_right (by rw [I.len]; omega), List.getElem?_replicate] at e2
        split at e2 <;> cases e2
    rw [List.getElem?_append_left (by rw [I.len]; exact hi)] at e2
    have vis : Vis scope x := by
      have e3 : Vis (relabel scope X.env) x := e3
      unfold Vis relabel at e3
      rw [relabel_lookup (scope := scope)] at e3
      unfold Vis
      cases q : scope.names.lookup x with
      | none => rw [q] at e3; simp at e3
      | some k =>
        rw [q] at e3
        simp only [Option.map_some] at e3
        have := S.nocell _ (PySem.mem_of_lookup q)
        cases k <;> simp_all
    obtain ⟨n1, n2⟩ := hN i x hi e1 vis
    obtain ⟨m, hn, hl'⟩ := I.loc
    have kd := S.free x (PySem.mem_of_lookup n2)
    have visX : Vis X.env.scope x := by
      rcases kd with z | z
      · exact .inr (.inl z)
      · exact .inr (.inr z)
    obtain ⟨u, r, l⟩ := hl' i x v n1 e2 visX
    refine ⟨u, r, .inr ?_⟩
    rcases l with ⟨k, _⟩ | ⟨k, c, ec, z⟩
    · rcases kd with z | z
      · rw [z] at k; cases k
      · rw [z] at k; cases k
    · obtain ⟨c', hm⟩ := clo_has (env := X.env) scope.names [] x (.inl (PySem.mem_of_lookup n2))
      obtain ⟨c2, hc2⟩ := lookup_of_mem hm
      have := hlk x c2 hc2
      rw [ec] at this
      cases this
      refine ⟨?_, c, hc2, ?_⟩
      · show (compEnvC scope (cloF X.env scope.names []) s.heap.objs.size X.env).kindOf x = some .cell ∨ (compEnvC scope (cloF X.env scope.names []) s.heap.objs.size X.env).kindOf x = some .free
        rw [comp_kind, n2]
        simp only [Option.map_some]
        split
        · exact .inl rfl
        · exact .inr rfl
      · obtain ⟨o, ho, hd⟩ := z
        exact ⟨o, hk _ _ ho, hd⟩
  · obtain ⟨v, o, ho, hd⟩ := I.cell x c (hlk x c e)
    exact ⟨v, o, hk _ _ ho, hd⟩
  · show _ = Nc.length
    rw [List.length_append, List.length_replicate, I.len]
    omega
noncomputable def tEmit (D : Addr) (te : TE) : TU := fun σ H Q => te σ H fun y H' => ∃ xs, H' D = some (.lst xs) ∧ xs.length < sizeLine ∧ Q σ (upd H' D (.lst (xs ++ [y])))
theorem pu_emit {X : Cx} {elt : Expr} {te : TE} {D : Addr} (he : PE X elt te) : PU X (do let _ ← call (.builtin "list.append") [.ref D, ← eval elt X.env]) (tEmit D te) := by
  intro pins s σ H Q I h
  refine wpAny_bind (thn (he pins s σ H _ I h) fun u s1 ⟨y, H1, I1, r1, xs, hD, hz, q⟩ => ?_)
  refine wpAny_bind (thn (mt_append pins s1 σ H1 (.ref D) [y] (.ref D) [u] (fun _ H' => Q σ H') I1 rfl (.cons r1 .nil) ⟨D, xs, y, rfl, rfl, hD, hz, q⟩) fun _ s2 ⟨_, H2, I2, _, q2⟩ => ?_)
  exact wpAny_pure ⟨σ, H2, I2, q2⟩
noncomputable def tLC (k : Nat) (wi : TI) (g : TG) (tt : TT) (te : TE) : TE := fun σ H Q => wi σ H fun J H1 => ∀ D, H1 D = none →
  tLp J g tt (tEmit D te) (σ ++ List.replicate k none) (upd H1 D (.lst [])) fun _ H2 => Q (.ref D) H2
theorem inv_behind {X : Cx} {scope : Scope} {cl : List (Str × Addr)} {C : Addr} {Nc : List Str} {s s' : Shared} {h2 : Heap} {H H' : Hp} {fp : List Addr} {pins : List (Addr × Obj)} {σ σ' : St}
    (I : Inv X pins σ H s) (hf : ∀ b ∈ fp, FpOk X pins H b) (hC : C = s.heap.objs.size) (J : Inv (cxC X scope cl C Nc s H fp) [] σ' H' s') (hs : Heap.SameBut C s'.heap h2) : Inv X pins σ H' { s' with heap := h2 } := by
  have hok : HOk X.prog X.w H' h2 := fun b ob e => by
    refine (J.hok b ob e).stay (fun c w' hc q => (hs.2 c ?_).trans q) (fun _ q => q) fun _ _ q => q
    rintro rfl
    have fr : H' c = none := J.free
    rcases hc with rfl | hc
    · rw [fr] at e; cases e
    · rw [fr] at hc; cases hc
  have neC : ∀ b o, s.heap.get? b = some o → b ≠ C := fun b o e => by rw [hC]; exact Nat.ne_of_lt (Heap.lt_size e)
  refine I.call' (s' := { s' with heap := h2 }) (ch := fp) J.os ⟨fun b o e n hb hx => ?_, fun b o e n hb hx => ?_, fun b o e n hx => J.base.free b o e n hx, fun b o e hx => ?_, J.base.tups, J.base.frzs, J.base.tbls⟩ hok J.bare fun b hb => ?_
  · exact (hs.2 b (neC b o e)).trans (J.base.keep b o e n hb hx)
  · obtain ⟨sl, z⟩ := J.base.slot b o e n hb hx
    exact ⟨sl, (hs.2 b (neC b o e)).trans z⟩
  · obtain ⟨o', z⟩ := J.base.there b o e hx
    exact ⟨o', (hs.2 b (neC b o e)).trans z⟩
  · obtain ⟨f0, f1, f2, f3, f4, f5⟩ := hf b hb
    exact ⟨f3, f1, f4, f5⟩
theorem fpok_block {X : Cx} {scope : Scope} {C : Addr} {Nc : List Str} {s : Shared} {H H' : Hp} {fp : List Addr} {pins : List (Addr × Obj)} {σ : St}
    (S : CScope X scope) (I : Inv X pins σ H s) (hf : ∀ b ∈ fp, FpOk X pins H b) (hfl : ∀ b ∈ fp, b < s.heap.objs.size) (hC : C = s.heap.objs.size) (hn : ∀ b ∈ fp, H' b = none) :
    ∀ b ∈ fp, FpOk (cxC X scope (cloF X.env scope.names []) C Nc s H fp) [] H' b := fun b hb => by
  have hcl : ∀ x, (x, NameKind.free) ∈ scope.names → ∃ c, X.env.cells.lookup x = some c := fun x hx => I.ok.has x (S.free x hx)
  obtain ⟨f0, f1, f2, f3, f4, f5⟩ := hf b hb
  refine ⟨hn b hb, ?_, fun z => ?_, .inl hb, fun x c e => ?_, fun p hp => absurd (show p ∈ ([] : List (Addr × Obj)) from hp) (by simp)⟩
  · show b ≠ C
    rw [hC]; exact Nat.ne_of_lt (hfl b hb)
  · rcases List.mem_cons.mp (I.stkSub b z) with q | q
    · exact f1 q
    · exact f2 q
  · have := clo_mem scope.names [] hcl _ (PySem.mem_of_lookup e)
    rcases this with z | z
    · cases z
    · exact f4 x c z
theorem pe_lcomp {X : Cx} {elt tg iter : Expr} {ifs : List Expr} {scope : Scope} {pos : Pos} {Nc : List Str} {wi : TI} {g : TG} {tt : TT} {te : TE}
    (hx : X.xe = fun _ _ => False) (hc : X.calm = true) (S : CScope X scope) (hN : ∀ i x, i < X.N.length → Nc[i]? = some x → Vis scope x → X.N[i]? = some x ∧ scope.names.lookup x = some .free) (hl : X.N.length ≤ Nc.length)
    (hi : PI X tg iter wi) (hg : ∀ cl C s H fp, PG (cxC X scope cl C Nc s H fp) tg g) (ht : ∀ cl C s H fp, PTs (cxC X scope cl C Nc s H fp) ifs tt) (he : ∀ cl C s H fp, PE (cxC X scope cl C Nc s H fp) elt te)
    (hs : ∀ x, foldedSetIterable iter X.env x = pure x) : PE X (.ListComp elt [⟨tg, iter, ifs, 0⟩] scope pos) (tLC (Nc.length - X.N.length) wi g tt te) := by
  intro pins s σ H Q I h
  rw [eval_ListComp]
  have cutE : ∀ {α : Type} {m : Sem α} {Q : α → Shared → Prop} {s : Shared} {E' : Value → Shared → Prop}, wpAny (model X.prog X.w) X.A m Q X.xe s → wpAny (model X.prog X.w) X.A m Q E' s := fun z => by
    rw [hx] at z
    exact wpAny_noRaise z
  refine wpAny_comprehension_free (use := none) rfl hs (clo_of fun x hz => I.ok.has x (S.free x hz)) S.kind S.names (thn (hi pins s σ H _ I h) fun v s1 h1 => thn h1 fun itv s2 h2 => ?_)
  obtain ⟨it, fp, tn, J, H2, e, I2, T, st2, f2, q⟩ := h2
  subst e
  refine wpAny_newObj_type (hd := by size_fits) ?_
  have hfr := I2.fresh
  have I3 : Inv X pins σ (upd H2 s2.heap.objs.size (.lst [])) { s2 with heap := s2.heap.push { cls := .type "list", data := .seq ([] : List Value).toArray } } := I2.lnew (t' := s2.toks) (its := []) .nil (Nat.zero_le _)
  have st3 : tn 0 (s2.heap.push { cls := .type "list", data := .seq ([] : List Value).toArray }) := T.keep _ _ _ st2 fun b _ o e => Heap.get?_push_of_some _ e
  have fl3 : ∀ b ∈ fp, b < s2.heap.objs.size := fun b hb => by
    obtain ⟨o, e, _⟩ := T.obj _ _ st2 b hb
    exact Heap.lt_size e
  have ne3 : ∀ b ∈ fp, upd H2 s2.heap.objs.size (.lst []) b = none := fun b hb => by rw [upd_ne (Nat.ne_of_lt (fl3 b hb))]; exact (f2 b hb).1
  have f3 : ∀ b ∈ fp, FpOk X pins (upd H2 s2.heap.objs.size (.lst [])) b := fun b hb => ⟨ne3 b hb, (f2 b hb).2⟩
  have q3 := q s2.heap.objs.size hfr
  generalize hH3 : upd H2 s2.heap.objs.size (.lst []) = H3 at I3 ne3 f3 q3
  generalize hs3 : ({ s2 with heap := s2.heap.push { cls := .type "list", data := .seq ([] : List Value).toArray } } : Shared) = s3 at I3
  have hs3h : s3.heap = s2.heap.push { cls := .type "list", data := .seq ([] : List Value).toArray } := by rw [← hs3]
  rw [← hs3h] at st3
  have fl4 : ∀ b ∈ fp, b < s3.heap.objs.size := fun b hb => by rw [hs3h, Heap.size_push]; exact Nat.lt_succ_of_lt (fl3 b hb)
  refine wpAny_newFunctionEnv S.nocell (by intro y hy; simp at hy) (fun h1 hns hsb => ?_) S.kind
  have keep1 : ∀ b o, s3.heap.get? b = some o → h1.get? b = some o := fun b o e => hsb.extBut b o (Nat.ne_of_lt (Heap.lt_size e)) (Heap.get?_push_of_some _ e)
  have J0 := inv_block (h1 := h1) (t1 := s3.toks + ([] : List (Str × Value)).length) S I3 f3 fl4 rfl (by simpa using hns) keep1 hN hl
  have st4 : tn 0 h1 := T.keep _ _ _ st3 fun b _ o e => keep1 b o e
  have loop : ∀ s4 : Shared, s4 = { s3 with heap := h1, toks := s3.toks + ([] : List (Str × Value)).length } →
      codeAny (model X.prog X.w) X.A (.compLoop (.ListComp elt [⟨tg, iter, ifs, 0⟩] scope pos) 0 (.ref it) (.ref s2.heap.objs.size) (compEnvC scope (cloF X.env scope.names []) s3.heap.objs.size X.env))
        (compPost (model X.prog X.w) X.A X.xe none (EP X pins σ Q) (.ref s2.heap.objs.size) s3.heap.objs.size) s4 := by
    rintro s4 rfl
    refine cloop (X := cxC X scope (cloF X.env scope.names []) s3.heap.objs.size Nc s3 H3 fp) (ip := iter.pos) (body := (do let _ ← call (.builtin "list.append") [.ref s2.heap.objs.size, ← eval elt (compEnvC scope (cloF X.env scope.names []) s3.heap.objs.size X.env)]))
      rfl hc rfl rfl rfl (by rw [compTurn_list] <;> rfl) T (hg _ _ _ _ _) (ht _ _ _ _ _) (pu_emit (he _ _ _ _ _)) J0 st4 (fpok_block S I3 f3 fl4 rfl ne3) q3 ?_
    intro s' σ' H' J' q'
    obtain ⟨m, hn, _⟩ := J'.loc
    exact ⟨m, hn, fun h2 hs2 => ⟨.ref s2.heap.objs.size, H', inv_behind I3 f3 rfl J' hs2, rfl, q'⟩⟩
  exact codeAny_compStart_list (loop _ rfl) (T.self _ _ _ _ _ st4 (loop _ rfl))
end L2
end
section
namespace L2
open PySem PySem.Spec PyProof.Rows
theorem ps_lcomp {X : Cx} {elt tg iter : Expr} {ifs : List Expr} {scope : Scope} {pos spos py : Pos} {Nc : List Str} {wi : TI} {g : TG} {tt : TT} {te : TE} {i : Nat} {y : Str}
    (hx : X.xe = fun _ _ => False) (hc : X.calm = true) (S : CScope X scope) (hN : ∀ i x, i < X.N.length → Nc[i]? = some x → Vis scope x → X.N[i]? = some x ∧ scope.names.lookup x = some .free) (hl : X.N.length ≤ Nc.length)
    (hi : PI X tg iter wi) (hg : ∀ cl C s H fp, PG (cxC X scope cl C Nc s H fp) tg g) (ht : ∀ cl C s H fp, PTs (cxC X scope cl C Nc s H fp) ifs tt) (he : ∀ cl C s H fp, PE (cxC X scope cl C Nc s H fp) elt te)
    (hs : ∀ x, foldedSetIterable iter X.env x = pure x)
    (hNd : X.N.Nodup) (hy : X.N[i]? = some y) (hv : Loc X.env.scope y) (hf : X.fn y = true ∨ X.env.scope.names.lookup y = some .local)
    (hsw : swapsWith (.ListComp elt [⟨tg, iter, ifs, 0⟩] scope pos) (some (.Name y py)) spos.line X.env = pure true) :
    PS X (.Assign [.Name y py] (.ListComp elt [⟨tg, iter, ifs, 0⟩] scope pos) spos) (tAsg (tLC (Nc.length - X.N.length) wi g tt te) (gName i)) := by
  intro pins s σ H Q I h
  rw [exec_Assign_Name_used _ _ _ _ hsw]
  refine wpAny_bind (wpAny_standAt (wpAny_bind ?_))
  show wpAny _ X.A (do let _ ← comprehension (.ListComp elt [⟨tg, iter, ifs, 0⟩] scope pos) scope X.env _ (newList []) false (eval iter X.env) (some (assign (.Name y py) X.env))) _ _ s
  refine wpAny_bind (wpAny_mono (wpAny_comprehension_free (use := some (assign (.Name y py) X.env)) (Q := fun _ s' => SP X pins Q .next s') rfl hs (clo_of fun x hz => I.ok.has x (S.free x hz)) S.kind S.names
    (thn (hi pins s σ H _ I h) fun v s1 h1 => thn h1 fun itv s2 h2 => ?_)) (fun _ s' hq => wpAny_pure (wpAny_pure hq)) fun _ _ e => e)
  obtain ⟨it, fp, tn, J, H2, e, I2, T, st2, f2, q⟩ := h2
  subst e
  refine wpAny_newObj_type (hd := by size_fits) ?_
  have hfr := I2.fresh
  have I3 : Inv X pins σ (upd H2 s2.heap.objs.size (.lst [])) { s2 with heap := s2.heap.push { cls := .type "list", data := .seq ([] : List Value).toArray } } := I2.lnew (t' := s2.toks) (its := []) .nil (Nat.zero_le _)
  have st3 : tn 0 (s2.heap.push { cls := .type "list", data := .seq ([] : List Value).toArray }) := T.keep _ _ _ st2 fun b _ o e => Heap.get?_push_of_some _ e
  have fl3 : ∀ b ∈ fp, b < s2.heap.objs.size := fun b hb => by
    obtain ⟨o, e, _⟩ := T.obj _ _ st2 b hb
    exact Heap.lt_size e
  have ne3 : ∀ b ∈ fp, upd H2 s2.heap.objs.size (.lst []) b = none := fun b hb => by rw [upd_ne (Nat.ne_of_lt (fl3 b hb))]; exact (f2 b hb).1
  have f3 : ∀ b ∈ fp, FpOk X pins (upd H2 s2.heap.objs.size (.lst [])) b := fun b hb => ⟨ne3 b hb, (f2 b hb).2⟩
  have q3 := q s2.heap.objs.size hfr
  generalize hH3 : upd H2 s2.heap.objs.size (.lst []) = H3 at I3 ne3 f3 q3
  generalize hs3 : ({ s2 with heap := s2.heap.push { cls := .type "list", data := .seq ([] : List Value).toArray } } : Shared) = s3 at I3
  have hs3h : s3.heap = s2.heap.push { cls := .type "list", data := .seq ([] : List Value).toArray } := by rw [← hs3]
  rw [← hs3h] at st3
  have fl4 : ∀ b ∈ fp, b < s3.heap.objs.size := fun b hb => by rw [hs3h, Heap.size_push]; exact Nat.lt_succ_of_lt (fl3 b hb)
  refine wpAny_newFunctionEnv S.nocell (by intro y hy; simp at hy) (fun h1 hns hsb => ?_) S.kind
  have keep1 : ∀ b o, s3.heap.get? b = some o → h1.get? b = some o := fun b o e => hsb.extBut b o (Nat.ne_of_lt (Heap.lt_size e)) (Heap.get?_push_of_some _ e)
  have J0 := inv_block (h1 := h1) (t1 := s3.toks + ([] : List (Str × Value)).length) S I3 f3 fl4 rfl (by simpa using hns) keep1 hN hl
  have st4 : tn 0 h1 := T.keep _ _ _ st3 fun b _ o e => keep1 b o e
  have loop : ∀ s4 : Shared, s4 = { s3 with heap := h1, toks := s3.toks + ([] : List (Str × Value)).length } →
      codeAny (model X.prog X.w) X.A (.compLoop (.ListComp elt [⟨tg, iter, ifs, 0⟩] scope pos) 0 (.ref it) (.ref s2.heap.objs.size) (compEnvC scope (cloF X.env scope.names []) s3.heap.objs.size X.env))
        (compPost (model X.prog X.w) X.A X.xe (some (assign (.Name y py) X.env)) (fun _ s' => SP X pins Q .next s') (.ref s2.heap.objs.size) s3.heap.objs.size) s4 := by
    rintro s4 rfl
    refine cloop (X := cxC X scope (cloF X.env scope.names []) s3.heap.objs.size Nc s3 H3 fp) (ip := iter.pos) (body := (do let _ ← call (.builtin "list.append") [.ref s2.heap.objs.size, ← eval elt (compEnvC scope (cloF X.env scope.names []) s3.heap.objs.size X.env)]))
      rfl hc rfl rfl rfl (by rw [compTurn_list] <;> rfl) T (hg _ _ _ _ _) (ht _ _ _ _ _) (pu_emit (he _ _ _ _ _)) J0 st4 (fpok_block S I3 f3 fl4 rfl ne3) q3 ?_
    intro s' σ' H' J' q'
    have hC : H' s3.heap.objs.size = none := J'.free
    obtain ⟨m, hn, _⟩ := J'.loc
    have hn : s'.heap.Ns s3.heap.objs.size m := hn
    -- the frame's state, the block's own names still there
    have I4 : Inv X pins σ H' s' := inv_behind I3 f3 rfl J' (Heap.SameBut.refl _ _)
    obtain ⟨oc, es, ep, ho, hd, hr⟩ := id hn
    have above : X.s₀.heap.objs.size ≤ s3.heap.objs.size := I3.sz
    have hL : s3.heap.objs.size ≠ X.env.locals := Nat.ne_of_gt I3.lt
    have hfs : s3.heap.objs.size ∉ X.fs := I3.nofs (Nat.le_refl _)
    have I5 : Inv X (pins ++ [(s3.heap.objs.size, oc)]) σ H' s' := I4.pins_of fun p hp => by
      rcases List.mem_append.mp hp with hp | hp
      · exact I4.pin p (List.mem_append_right _ hp)
      · have : p = (s3.heap.objs.size, oc) := by simpa using hp
        subst this
        exact ⟨ho, hC, hL, hfs, fun v z => by rw [hd] at z; cases z⟩
    show wpAny _ _ (assign (.Name y py) X.env (.ref s2.heap.objs.size)) _ _ _
    refine wpAny_assign_Name (store_ok (v := .ref s2.heap.objs.size) I5 hNd hy hv rfl (fun s5 I6 => ?_) hf)
    have hp6 := I6.pin (s3.heap.objs.size, oc) (List.mem_append_right _ (List.mem_append_right _ (by simp)))
    refine ⟨m, ⟨oc, es, ep, hp6.1, hd, hr⟩, fun h' hsb' => ?_⟩
    have I7 : Inv X pins (σ.set i (some (.ref s2.heap.objs.size))) H' s5 := I6.unpinned
    refine ⟨_, H', I7.turned (h' := h') (t' := s5.toks) (it := s3.heap.objs.size) (fun b o hb e => (hsb'.2 b hb).trans e) hC hL (.inr above) (fun x c e z => ?_) (fun p hp z => ?_), q'⟩
    · obtain ⟨v, o, hoc, hdc⟩ := I3.cell x c e
      have := Heap.lt_size hoc
      rw [z] at this
      exact absurd this (Nat.lt_irrefl _)
    · have hq := (I3.pin p hp).1
      have := Heap.lt_size hq
      rw [z] at this
      exact absurd this (Nat.lt_irrefl _)
  exact codeAny_compStart_list (loop _ rfl) (T.self _ _ _ _ _ st4 (loop _ rfl))
end L2
end
section
namespace PP
open PySem PySem.W PyProof.Rows
structure Ord (lt : Nat → Nat → Bool) : Prop where
  as : ∀ a b, lt a b = true → lt b a = false
  tr : ∀ a b c, lt b a = false → lt c b = false → lt c a = false
section
variable {lt : Nat → Nat → Bool} (O : Ord lt)
noncomputable def Up (lt : Nat → Nat → Bool) (p : Array Nat) (m : Nat) : Prop := ∀ i j, i ≤ j → j < m → lt (p.getD j 0) (p.getD i 0) = false
noncomputable def Dn' (lt : Nat → Nat → Bool) (p : Array Nat) (m : Nat) : Prop := ∀ i j, i ≤ j → j < m → lt (p.getD i 0) (p.getD j 0) = false
include O
theorem Ord.refl (a : Nat) : lt a a = false := by
  cases h : lt a a with
  | false => rfl
  | true => have := O.as a a h; rw [h] at this; cases this
theorem Up.one (p : Array Nat) : Up lt p 1 := fun i j h1 h2 => by
  have e1 : j = 0 := by omega
  have e2 : i = 0 := by omega
  subst e1; subst e2
  exact O.refl _
theorem Up.more {p : Array Nat} {n : Nat} (h : Up lt p n) (hn : 1 ≤ n) (h2 : lt (p.getD n 0) (p.getD (n - 1) 0) = false) : Up lt p (n + 1) := fun i j h3 h4 => by
  by_cases e : j = n
  · subst e
    by_cases e' : i = j
    · subst e'; exact O.refl _
    · exact O.tr _ _ _ (h i (j - 1) (by omega) (by omega)) h2
  · exact h i j h3 (by omega)
theorem Dn'.more {p : Array Nat} {n : Nat} (h : Dn' lt p n) (hn : 1 ≤ n) (h2 : lt (p.getD (n - 1) 0) (p.getD n 0) = false) : Dn' lt p (n + 1) := fun i j h3 h4 => by
  by_cases e : j = n
  · subst e
    by_cases e' : i = j
    · subst e'; exact O.refl _
    · exact O.tr _ _ _ h2 (h i (j - 1) (by omega) (by omega))
  · exact h i j h3 (by omega)
omit O in
theorem getD_eq (p : Array Nat) (k : Nat) : p.getD k 0 = (p[k]?).getD 0 := by
  simp [Array.getD_eq_getD_getElem?]
omit O in
theorem rev_get {p : Array Nat} {i j : Nat} (hj : j ≤ p.size) (k : Nat) : (kas_rev p i j).getD k 0 = if i ≤ k ∧ k < j then p.getD (i + j - 1 - k) 0 else p.getD k 0 := by
  rw [getD_eq, kas_rev, getElem?_mirror hj ((j - i) / 2) (by omega) k]
  by_cases h : i ≤ k ∧ k < j
  · rw [if_pos h]
    by_cases h2 : (i ≤ k ∧ k < i + (j - i) / 2) ∨ (j - (j - i) / 2 ≤ k ∧ k < j)
    · rw [if_pos h2, getD_eq]
    · rw [if_neg h2, getD_eq]
      have : i + j - 1 - k = k := by omega
      rw [this]
  · rw [if_neg h]
    by_cases h2 : (i ≤ k ∧ k < i + (j - i) / 2) ∨ (j - (j - i) / 2 ≤ k ∧ k < j)
    · exfalso; omega
    · rw [if_neg h2, getD_eq]
noncomputable def Eqv (lt : Nat → Nat → Bool) (p : Array Nat) (a b : Nat) : Prop := ∀ i j, a ≤ i → i < b → a ≤ j → j < b → lt (p.getD i 0) (p.getD j 0) = false
theorem Dn'.turn {p : Array Nat} {n a : Nat} (h : Dn' lt p n) (hn : n ≤ p.size) (e : Eqv lt p a n) : Dn' lt (kas_rev p a n) n := fun i j h1 h2 => by
  rw [rev_get hn, rev_get hn]
  by_cases hi : a ≤ i
  · rw [if_pos ⟨hi, by omega⟩, if_pos ⟨by omega, h2⟩]
    exact e _ _ (by omega) (by omega) (by omega) (by omega)
  · rw [if_neg (by omega)]
    by_cases hj : a ≤ j
    · rw [if_pos ⟨hj, h2⟩]
      exact h _ _ (by omega) (by omega)
    · rw [if_neg (by omega)]
      exact h _ _ h1 h2
end
end PP
end
section
namespace PP
open PySem
inductive D where
  | non | bl (b : Bool) | int (i : Int) | str (x : Str) | lst (ds : List D) | tup (ds : List D) | fn (k : Nat) (ds : List D)
  deriving Inhabited
mutual
noncomputable def eqD : D → D → Bool
  | .non, .non => true
  | .bl a, .bl b => a == b
  | .bl a, .int b => (if a then 1 else 0) == b
  | .int a, .bl b => a == (if b then 1 else 0)
  | .int a, .int b => a == b
  | .str a, .str b => a == b
  | .lst a, .lst b => eqDs a b
  | .tup a, .tup b => eqDs a b
  | _, _ => false
noncomputable def eqDs : List D → List D → Bool
  | [], [] => true
  | x :: xs, y :: ys => eqD x y && eqDs xs ys
  | _, _ => false
end
mutual
noncomputable def ltD : D → D → Option Bool
  | .int a, .int b => some (decide (a < b))
  | .str a, .str b => some (decide (a.cps.toList < b.cps.toList))
  | .tup a, .tup b => ltDs a b
  | _, _ => none
noncomputable def ltDs : List D → List D → Option Bool
  | [], [] => some false
  | [], _ :: _ => some true
  | _ :: _, [] => some false
  | x :: xs, y :: ys => if eqD x y = true then ltDs xs ys else ltD x y
end
mutual
noncomputable def dep : D → Nat
  | .lst ds | .tup ds => depL ds + 1
  | .fn _ _ => 100000
  | _ => 0
noncomputable def depL : List D → Nat
  | [] => 0
  | x :: xs => max (dep x) (depL xs)
end
mutual
noncomputable def lf : D → Bool
  | .lst _ => false
  | .fn _ _ => false
  | .tup ds => lfL ds
  | _ => true
noncomputable def lfL : List D → Bool
  | [] => true
  | x :: xs => lf x && lfL xs
end
noncomputable def flat : D → Bool
  | .non | .bl _ | .int _ | .str _ => true
  | _ => false
noncomputable def tv : D → Option Bool
  | .non => some false
  | .bl b => some b
  | .int i => some (i != 0)
  | .str x => if x.length ≤ sizeLine then some ((x.length : Int) != 0) else none
  | .lst ds | .tup ds => some (!ds.isEmpty)
  | .fn _ _ => none
inductive Op where
  | add | sub | mul | mod | fdiv
  deriving DecidableEq
inductive Cop where
  | lt | gt | eq | ne | isin | notin | is | isnot
  deriving DecidableEq
inductive Blt where
  | len | max | toInt | toStr | toTup | toLst | isTup | isStr
  deriving DecidableEq
noncomputable def mulOk (i j : Int) : Bool := (decide (-(2 ^ 64) < i) && decide (i < 2 ^ 64)) || (decide (-(2 ^ 64) < j) && decide (j < 2 ^ 64))
noncomputable def addD : D → D → Option D
  | .int a, .int b => some (.int (a + b))
  | .str a, .str b => if a.length + b.length ≤ sizeLine then some (.str (a ++ b)) else none
  | .tup a, .tup b => if a ≠ [] ∧ a.length + b.length ≤ sizeLine then some (.tup (a ++ b)) else none
  | .lst a, .lst b => if a.length + b.length ≤ sizeLine then some (.lst (a ++ b)) else none
  | _, _ => none
noncomputable def subD : D → D → Option D
  | .int a, .int b => some (.int (a - b))
  | _, _ => none
noncomputable def mulD : D → D → Option D
  | .int a, .int b => if mulOk a b then some (.int (a * b)) else none
  | _, _ => none
noncomputable def modD : D → D → Option D
  | .int a, .int b => if 0 < b then some (.int (a % b)) else none
  | _, _ => none
noncomputable def fdivD : D → D → Option D
  | .int a, .int b => if 0 < b ∧ b < 1073741824 then some (.int (a / b)) else none
  | _, _ => none
noncomputable def opD : Op → D → D → Option D
  | .add => addD | .sub => subD | .mul => mulD | .mod => modD | .fdiv => fdivD
noncomputable def kin : D → D → Bool
  | .bl _, .bl _ | .int _, .int _ | .str _, .str _ | .lst _, .lst _ | .tup _, .tup _ => true
  | _, _ => false
noncomputable def depOk (a b : D) : Bool := kin a b && decide (min (dep a) (dep b) ≤ 150)
noncomputable def ordD (p : Int → Int → Bool) : D → D → Option Bool
  | .int a, .int b => some (p a b)
  | _, _ => none
noncomputable def occS (y x : Str) : Bool := !(Builtin.Str.occurrences y x 0 y.length 1).isEmpty
noncomputable def inD (a : D) : D → Option Bool
  | .lst ds => if dep a ≤ 150 then some (ds.any fun y => eqD y a) else none
  | .tup ds => if dep a ≤ 150 then some (ds.any fun y => eqD y a) else none
  | .str y => match a with
    | .str x => some (occS y x)
    | _ => none
  | _ => none
noncomputable def isNonD : D → Bool
  | .non => true
  | _ => false
noncomputable def isD (a : D) : D → Option Bool
  | .non => some (isNonD a)
  | _ => none
noncomputable def cmpD : Cop → D → D → Option Bool
  | .lt, x, y => ordD (fun a b => decide (a < b)) x y
  | .gt, x, y => ordD (fun a b => decide (b < a)) x y
  | .eq, a, b => if depOk a b then some (eqD a b) else none
  | .ne, a, b => if depOk a b then some (!eqD a b) else none
  | .isin, a, y => inD a y
  | .notin, a, y => (inD a y).map (!·)
  | .is, a, y => isD a y
  | .isnot, a, y => (isD a y).map (!·)
noncomputable def ixD : D → D → Option D
  | .lst ds, .int i => L2.atI ds i
  | .tup ds, .int i => L2.atI ds i
  | .str x, .int i => if x.length ≤ sizeLine then (L2.atI x.cps.toList i).map fun c => .str ⟨#[c]⟩ else none
  | _, _ => none
noncomputable def cutD (ds : List D) (lo hi : Option Int) : List D := (ds.drop (HT.sIx ds.length 0 lo)).take (HT.sIx ds.length ds.length hi - HT.sIx ds.length 0 lo)
noncomputable def slD : D → Option Int → Option Int → Option D
  | .lst ds, lo, hi => some (.lst (cutD ds lo hi))
  | .tup ds, lo, hi => if HT.sIx ds.length 0 lo = 0 ∧ HT.sIx ds.length ds.length hi = ds.length then none else some (.tup (cutD ds lo hi))
  | _, _, _ => none
noncomputable def intsD : List D → Option (List Int)
  | [] => some []
  | .int i :: r => (intsD r).map (i :: ·)
  | _ => none
noncomputable def lenD : List D → Option D
  | [.str x] => if x.length ≤ sizeLine then some (.int x.length) else none
  | [.lst ds] => some (.int ds.length)
  | [.tup ds] => some (.int ds.length)
  | _ => none
noncomputable def topI : List Int → Int
  | [] => 0
  | n :: ns => ns.foldl (fun a b => if b > a then b else a) n
noncomputable def maxD : List D → Option D
  | [.int i, .int j] => some (.int (if j > i then j else i))
  | [.lst ds] => (intsD ds).bind fun ns => if ns = [] then none else some (.int (topI ns))
  | _ => none
noncomputable def toIntD : List D → Option D
  | [.int i] => some (.int i)
  | [.bl b] => some (.int (if b then 1 else 0))
  | [.str x] => if x.length ≤ 640 then (PySem.intText? x).map .int else none
  | _ => none
noncomputable def toStrD : List D → Option D
  | [.int i] => if i.natAbs.log2 < 1920 then some (.str (toString i)) else none
  | _ => none
noncomputable def toTupD : List D → Option D
  | [.lst ds] => some (.tup ds)
  | [.tup ds] => some (.tup ds)
  | _ => none
noncomputable def toLstD : List D → Option D
  | [.lst ds] => some (.lst ds)
  | [.tup ds] => some (.lst ds)
  | _ => none
noncomputable def isTupD : List D → Option D
  | [.tup _] => some (.bl true)
  | [.fn _ _] => none
  | [_] => some (.bl false)
  | _ => none
noncomputable def isStrD : List D → Option D
  | [.str _] => some (.bl true)
  | [.fn _ _] => none
  | [_] => some (.bl false)
  | _ => none
noncomputable def bltD : Blt → List D → Option D
  | .len => lenD | .max => maxD | .toInt => toIntD | .toStr => toStrD | .toTup => toTupD | .toLst => toLstD
  | .isTup => isTupD | .isStr => isStrD
inductive Sl where
  | no | val (d : D) | own (ds : List D) | fnc (k : Nat) (cs : List D)
  deriving Inhabited
abbrev Loc := List Sl
inductive Tg where
  | nm (i : Nat)
  | tp (is : List Nat)
  | pr (i : Nat) (is : List Nat)
mutual
inductive E where
  | var (i : Nat)
  | pk (i : Nat)
  | glob (g : Nat)
  | int (i : Int) | bl (b : Bool) | non | str (x : Str)
  | bin (op : Op) (a b : E)
  | cmp (op : Cop) (a b : E)
  | and (a b : E) | or (a b : E) | not (a : E) | neg (a : E)
  | ite (c a b : E)
  | tup (es : Es) | lst (es : Es)
  | ix (a b : E)
  | sl (a : E) (lo hi : Eo)
  | call (f : Nat) (es : Es)
  | blt (f : Blt) (es : Es)
  | callv (i : Nat) (es : Es)
  | callF (f : Nat) (es : Es) (i : Nat)
  | fstr (t : Str) (a : E)
  | comp (k : Nat) (tg : Tg) (src : It) (ifs : Eo) (elt : E)
inductive Es where
  | nil | cons (e : E) (es : Es)
inductive Eo where
  | no | yes (e : E)
inductive It where
  | rng (e : E) | sq (e : E)
end
noncomputable def get (δ : Loc) (i : Nat) : Option D := match δ[i]? with
  | some (.val d) => some d
  | some (.own ds) => some (.lst ds)
  | _ => none
noncomputable def demote (δ : Loc) (i : Nat) : Loc := match δ[i]? with
  | some (.own ds) => δ.set i (.val (.lst ds))
  | _ => δ
noncomputable def setTg (δ : Loc) : Tg → D → Option Loc
  | .nm i, d => if i < δ.length then some (δ.set i (.val d)) else none
  | .tp is, .tup ds => if is.length = ds.length ∧ is.all (· < δ.length) = true then some ((is.zip ds).foldl (fun δ p => δ.set p.1 (.val p.2)) δ) else none
  | .tp is, .lst ds => if is.length = ds.length ∧ is.all (· < δ.length) = true then some ((is.zip ds).foldl (fun δ p => δ.set p.1 (.val p.2)) δ) else none
  | .pr i is, .tup [a, .tup ds] => if i < δ.length ∧ is.length = ds.length ∧ is.all (· < δ.length) = true then some ((is.zip ds).foldl (fun δ p => δ.set p.1 (.val p.2)) (δ.set i (.val a))) else none
  | _, _ => none
noncomputable def items : D → Option (List D)
  | .lst ds => some ds
  | .tup ds => some ds
  | .str x => if x.length ≤ sizeLine then some (x.cps.toList.map fun c => .str ⟨#[c]⟩) else none
  | _ => none
noncomputable def rngD (lo : Int) (n : Nat) : List D := (List.range n).map fun (i : Nat) => D.int (lo + i)
noncomputable def compL (f : D → Loc → Option (Option D × Loc)) : List D → Loc → Option (List D × Loc)
  | [], δ => some ([], δ)
  | x :: xs, δ => do
    let (o, δ1) ← f x δ
    let (ys, δ2) ← compL f xs δ1
    return (match o with | some y => y :: ys | none => ys, δ2)
noncomputable def lfO : Option D → Option D
  | some r => if lf r = true then some r else none
  | none => none
noncomputable def capsD (δ : Loc) : List Nat → Option (List D)
  | [] => some []
  | i :: r => match get δ i with
    | some d => if flat d = true then (capsD δ r).map (d :: ·) else none
    | none => none
structure Cl where
  call : Nat → List D → Option D
  gl : List D
  hf : Nat → Bool
section
variable (cx : Cl)
mutual
noncomputable def evE : E → Loc → Option (D × Loc)
  | .var i, δ => do return (← get δ i, demote δ i)
  | .pk i, δ => do return (← get δ i, δ)
  | .glob g, δ => do return (← cx.gl[g]?, δ)
  | .int i, δ => some (.int i, δ)
  | .bl b, δ => some (.bl b, δ)
  | .non, δ => some (.non, δ)
  | .str x, δ => some (.str x, δ)
  | .bin op a b, δ => do
    let (x, δ1) ← evE a δ
    let (y, δ2) ← evE b δ1
    return (← opD op x y, δ2)
  | .cmp op a b, δ => do
    let (x, δ1) ← evE a δ
    let (y, δ2) ← evE b δ1
    return (.bl (← cmpD op x y), δ2)
  | .and a b, δ => do
    match ← evE a δ with
    | (.bl true, δ1) => evE b δ1
    | (.bl false, δ1) => some (.bl false, δ1)
    | _ => none
  | .or a b, δ => do
    match ← evE a δ with
    | (.bl true, δ1) => some (.bl true, δ1)
    | (.bl false, δ1) => evE b δ1
    | _ => none
  | .not a, δ => do
    match ← evE a δ with
    | (.bl b, δ1) => some (.bl (!b), δ1)
    | _ => none
  | .neg a, δ => do
    match ← evE a δ with
    | (.int i, δ1) => some (.int (-i), δ1)
    | _ => none
  | .fstr t a, δ => do
    match ← evE a δ with
    | (.int i, δ1) => if i.natAbs.log2 < 1920 ∧ t.length + (toString i : Str).length ≤ sizeLine then some (.str (t ++ toString i), δ1) else none
    | _ => none
  | .ite c a b, δ => do
    let (k, δ1) ← evT c δ
    if k then evE a δ1 else evE b δ1
  | .tup es, δ => do
    let (ds, δ1) ← evEs es δ
    if ds.length ≤ sizeLine then return (.tup ds, δ1) else none
  | .lst es, δ => do
    let (ds, δ1) ← evEs es δ
    if ds.length ≤ sizeLine then return (.lst ds, δ1) else none
  | .ix a b, δ => do
    let (x, δ1) ← evE a δ
    let (y, δ2) ← evE b δ1
    return (← ixD x y, δ2)
  | .sl a lo hi, δ => do
    let (x, δ1) ← evE a δ
    let (l, δ2) ← evO lo δ1
    let (h, δ3) ← evO hi δ2
    return (← slD x l h, δ3)
  | .call f es, δ => do
    let (ds, δ1) ← evEs es δ
    return (← cx.call f ds, δ1)
  | .blt f es, δ => do
    let (ds, δ1) ← evEs es δ
    return (← bltD f ds, δ1)
  | .callv i es, δ => do
    let (ds, δ1) ← evEs es δ
    match δ[i]? with
    | some (.fnc k cs) => if lfL ds = true then (lfO (cx.call k (ds ++ cs))).map fun r => (r, δ1) else none
    | _ => none
  | .callF f es i, δ => do
    let (ds, δ1) ← evEs es δ
    match δ1[i]? with
    | some (.fnc k cs) => if cx.hf f = true then (cx.call f (ds ++ [.fn k cs])).map fun r => (r, δ1) else none
    | _ => none
  | .comp k tg src ifs elt, δ => do
    let (ds, δ1) ← evI src δ
    let (ys, δ2) ← compL (fun x δ0 => do
      let δ2 ← setTg (δ0 ++ List.replicate k .no) tg x
      let (b, δ3) ← evG ifs δ2
      if b then do
        let (y, δ4) ← evE elt δ3
        return (some y, δ4.take δ0.length)
      else return (none, δ3.take δ0.length)) ds δ1
    if ys.length ≤ sizeLine then return (.lst ys, δ2) else none
noncomputable def evT : E → Loc → Option (Bool × Loc)
  | .and a b, δ => do
    let (k, δ1) ← evT a δ
    if k then evT b δ1 else some (false, δ1)
  | .or a b, δ => do
    let (k, δ1) ← evT a δ
    if k then some (true, δ1) else evT b δ1
  | .not a, δ => do
    let (k, δ1) ← evT a δ
    return (!k, δ1)
  | .cmp op a b, δ => do
    let (x, δ1) ← evE a δ
    let (y, δ2) ← evE b δ1
    return (← cmpD op x y, δ2)
  | .var i, δ => do
    let d ← get δ i
    return (← tv d, δ)
  | .pk i, δ => do
    let d ← get δ i
    return (← tv d, δ)
  | .call f es, δ => do
    let (ds, δ1) ← evEs es δ
    let d ← cx.call f ds
    return (← tv d, δ1)
  | .blt f es, δ => do
    let (ds, δ1) ← evEs es δ
    let d ← bltD f ds
    return (← tv d, δ1)
  | _, _ => none
noncomputable def evEs : Es → Loc → Option (List D × Loc)
  | .nil, δ => some ([], δ)
  | .cons e es, δ => do
    let (d, δ1) ← evE e δ
    let (ds, δ2) ← evEs es δ1
    return (d :: ds, δ2)
noncomputable def evO : Eo → Loc → Option (Option Int × Loc)
  | .no, δ => some (none, δ)
  | .yes e, δ => do
    match ← evE e δ with
    | (.int i, δ1) => some (some i, δ1)
    | _ => none
noncomputable def evG : Eo → Loc → Option (Bool × Loc)
  | .no, δ => some (true, δ)
  | .yes e, δ => evT e δ
noncomputable def evI : It → Loc → Option (List D × Loc)
  | .rng e, δ => do
    match ← evE e δ with
    | (.int j, δ1) => if -(2 ^ 62) ≤ j ∧ j < 2 ^ 62 then some (rngD 0 j.toNat, δ1) else none
    | _ => none
  | .sq e, δ => do
    let (d, δ1) ← evE e δ
    return (← items d, δ1)
end
end
mutual
inductive S where
  | asg (tg : Tg) (e : E)
  | new (i : Nat) (e : E)
  | cmp (own : Bool) (i : Nat) (e : E)
  | aug (i : Nat) (op : Op) (e : E)
  | ret (e : E) | retN
  | retL (f : Nat) (es : Es) (k : Nat) (caps : List Nat)
  | ifs (c : E) (a b : Ss)
  | for_ (tg : Tg) (src : It) (body : Ss)
  | forZ (tg : Tg) (es : Es) (body : Ss)
  | while_ (c : E) (body : Ss)
  | append (i : Nat) (e : E)
  | pass | brk | cont
inductive Ss where
  | nil | cons (s : S) (ss : Ss)
end
inductive Out where
  | nx (δ : Loc) | rt (d : D) (δ : Loc) | bk (δ : Loc) | ct (δ : Loc) | ro (ds : List D) (δ : Loc)
noncomputable def forL (f : D → Loc → Option Out) : List D → Loc → Option Out
  | [], δ => some (.nx δ)
  | x :: xs, δ => match f x δ with
    | some (.nx δ1) => forL f xs δ1
    | some (.ct δ1) => forL f xs δ1
    | some (.bk δ1) => some (.nx δ1)
    | some (.rt d δ1) => some (.rt d δ1)
    | some (.ro ds δ1) => some (.ro ds δ1)
    | none => none
noncomputable def whileL (c : Loc → Option (Bool × Loc)) (f : Loc → Option Out) : Nat → Loc → Option Out
  | 0, _ => none
  | n + 1, δ => match c δ with
    | some (true, δ1) => match f δ1 with
      | some (.nx δ2) => whileL c f n δ2
      | some (.ct δ2) => whileL c f n δ2
      | some (.bk δ2) => some (.nx δ2)
      | some (.rt d δ2) => some (.rt d δ2)
      | some (.ro ds δ2) => some (.ro ds δ2)
      | none => none
    | some (false, δ1) => some (.nx δ1)
    | none => none
noncomputable def seqD : D → Option (List D)
  | .lst ds => some ds
  | .tup ds => some ds
  | _ => none
noncomputable def zipD (xs ys : List D) : List D := (xs.zip ys).map fun p => .tup [p.1, p.2]
noncomputable def own0 : Nat := 1000000
section
variable (cx : Cl)
mutual
noncomputable def evS : S → Loc → Option Out
  | .asg tg e, δ => do
    let (d, δ1) ← evE cx e δ
    return .nx (← setTg δ1 tg d)
  | .new i e, δ => do
    match ← evE cx e δ with
    | (.lst ds, δ1) => if i < δ1.length then some (.nx (δ1.set i (.own ds))) else none
    | _ => none
  | .cmp own i e, δ => do
    match ← evE cx e δ with
    | (.lst ds, δ1) => if i < δ1.length then some (.nx (δ1.set i (if own then .own ds else .val (.lst ds)))) else none
    | _ => none
  | .aug i op e, δ => do
    match δ[i]? with
    | some (.val x) => do
      let (y, δ1) ← evE cx e δ
      match op, x, y with
      | .add, .int a, .int b => some (.nx (δ1.set i (.val (.int (a + b)))))
      | .sub, .int a, .int b => some (.nx (δ1.set i (.val (.int (a - b)))))
      | _, _, _ => none
    | _ => none
  | .ret e, δ => do
    let (d, δ1) ← evE cx e δ
    return .rt d δ1
  | .retN, δ => some (.rt .non δ)
  | .retL f es k caps, δ => do
    let (ds, δ1) ← evEs cx es δ
    let cs ← capsD δ1 caps
    if cx.hf f = true then (lfO (cx.call f (ds ++ [.fn k cs]))).map fun r => .rt r δ1 else none
  | .ifs c a b, δ => do
    let (k, δ1) ← evT cx c δ
    if k then evSs a δ1 else evSs b δ1
  | .for_ tg src body, δ => do
    let (ds, δ1) ← evI cx src δ
    forL (fun x δ0 => match setTg δ0 tg x with
      | some δ2 => evSs body δ2
      | none => none) ds δ1
  | .forZ tg es body, δ => do
    let (ds, δ1) ← evEs cx es δ
    match ds with
    | [x, y] => (match seqD x, seqD y with
      | some xs, some ys => (forL (fun p δ0 => (match setTg δ0 tg p with
        | some δ2 => evSs body δ2
        | none => none)) (zipD xs ys) δ1)
      | _, _ => none)
    | _ => none
  | .while_ c body, δ => whileL (fun δ0 => evT cx c δ0) (fun δ0 => evSs body δ0) 1000 δ
  | .append i e, δ => match δ[i]? with
    | some (.own _) => do
      let (d, δ1) ← evE cx e δ
      match δ1[i]? with
      | some (.own ds) => if ds.length < sizeLine then some (.nx (δ1.set i (.own (ds ++ [d])))) else none
      | _ => none
    | _ => none
  | .pass, δ => some (.nx δ)
  | .brk, δ => some (.bk δ)
  | .cont, δ => some (.ct δ)
noncomputable def evSs : Ss → Loc → Option Out
  | .nil, δ => some (.nx δ)
  | .cons s ss, δ => match evS s δ with
    | some (.nx δ1) => evSs ss δ1
    | o => o
end
end
structure Fd where
  name : Str
  ps : List Str
  loc : List Str
  body : Ss
  hf : Bool := false
noncomputable def outD : Option Out → Option D
  | some (.rt d _) => some d
  | some (.ro ds _) => some (.lst ds)
  | some (.nx _) => some .non
  | _ => none
noncomputable def ownD : Option Out → Option D
  | some (.ro ds _) => some (.lst ds)
  | _ => none
noncomputable def init (n : Nat) (ds : List D) : Loc := ds.map .val ++ List.replicate (n - ds.length) .no
noncomputable def hfs (G : List Fd) (f : Nat) : Bool := match G[f]? with
  | some fd => fd.hf
  | none => false
noncomputable def initF (n : Nat) (ds : List D) (k : Nat) (cs : List D) : Loc := ds.map .val ++ Sl.fnc k cs :: List.replicate (n - (ds.length + 1)) .no
noncomputable def entry (hf : Bool) (n : Nat) (ds : List D) : Option Loc := match hf with
  | false => some (init n ds)
  | true => match ds.getLast? with
    | some (.fn k cs) => some (initF n ds.dropLast k cs)
    | _ => none
noncomputable def run (G : List Fd) (gl : List D) : Nat → Nat → List D → Option D
  | 0, _, _ => none
  | n + 1, f, ds => match G[f]? with
    | some fd => if ds.length = fd.ps.length then (match entry fd.hf (fd.ps ++ fd.loc).length ds with
      | some δ => outD (evSs ⟨run G gl n, gl, hfs G⟩ fd.body δ)
      | none => none) else none
    | none => match G[f - own0]? with
      | some fd => if own0 ≤ f ∧ ds.length = fd.ps.length then (match entry fd.hf (fd.ps ++ fd.loc).length ds with
        | some δ => ownD (evSs ⟨run G gl n, gl, hfs G⟩ fd.body δ)
        | none => none) else none
      | none => none
noncomputable def isPk : E → Bool
  | .pk _ => true
  | _ => false
mutual
noncomputable def np : E → Bool
  | .bin _ a b | .cmp _ a b | .and a b | .or a b | .ix a b => np a && np b
  | .not a => np a
  | .neg a => np a
  | .fstr _ a => np a
  | .ite c a b => np c && np a && np b
  | .tup es | .lst es | .call _ es | .blt _ es | .callv _ es | .callF _ es _ => npS es
  | .sl a lo hi => np a && npO lo && npO hi
  | .comp _ _ src ifs elt => npI src && npO ifs && np elt
  | _ => true
noncomputable def npS : Es → Bool
  | .nil => true
  | .cons e es => np e && npS es
noncomputable def npO : Eo → Bool
  | .no => true
  | .yes e => np e
noncomputable def npI : It → Bool
  | .rng e => np e
  | .sq e => np e
end
end PP
example : PP.evE ⟨fun _ _ => none, [], fun _ => false⟩ (.bin .add (.int 1) (.int 2)) [] = some (.int 3, []) := rfl
end
section
namespace PP
open PySem L2
noncomputable def KLs (K : PySem.W.Frag) (a : Addr) (xs : List V) : Prop := ∃ (its : Array Value) (n : Nat), K.lookup a = some ⟨.type "list", none, .seq its n, #[]⟩ ∧ its.size ≤ sizeLine ∧ Vals xs its.toList
noncomputable def Ls (K : PySem.W.Frag) (H : Hp) (F : Addr → Prop) (a : Addr) (xs : List V) : Prop := (Rd H a (.lst xs) ∧ ¬ F a) ∨ KLs K a xs
noncomputable def LsB (K : PySem.W.Frag) (H : Hp) (a : Addr) (xs : List V) : Prop := Rd H a (.lst xs) ∨ KLs K a xs
theorem Ls.b {K : PySem.W.Frag} {H : Hp} {F : Addr → Prop} {a : Addr} {xs : List V} (h : Ls K H F a xs) : LsB K H a xs := h.imp (·.1) id
theorem LsB.sq {K : PySem.W.Frag} {H : Hp} {a : Addr} {xs : List V} (h : LsB K H a xs) : SqL K H a xs := by
  rcases h with h | ⟨its, n, h1, h2, h3⟩
  · exact .inl h
  · exact .inr ⟨_, its, n, h1, rfl, rfl, rfl, h2, h3⟩
theorem Ls.sq {K : PySem.W.Frag} {H : Hp} {F : Addr → Prop} {a : Addr} {xs : List V} (h : Ls K H F a xs) : SqL K H a xs := h.b.sq
theorem LsB.obj {X : Cx} {pins : List (Addr × Obj)} {σ : St} {H : Hp} {s : Shared} {a : Addr} {xs : List V} (I : Inv X pins σ H s) (h : LsB X.K H a xs) :
    ∃ (its : List Value) (n : Nat), Vals xs its ∧ s.heap.get? a = some { cls := .type "list", data := .seq its.toArray n } ∧ xs.length ≤ sizeLine := by
  rcases h with h | ⟨its, n, h1, h2, h3⟩
  · obtain ⟨z, its, n, r, e⟩ := h.ok I.hok
    exact ⟨its, n, r, e, z⟩
  · refine ⟨its.toList, n, h3, ?_, ?_⟩
    · have := I.kIn a _ h1
      simpa using this
    · have := h3.length
      rw [this]
      simpa using h2
mutual
noncomputable def Rel (K : PySem.W.Frag) (H : Hp) (F : Addr → Prop) : D → V → Prop
  | .non, v => v = .non
  | .bl b, v => v = .bl b
  | .int i, v => v = .int i
  | .str x, v => v = .str x
  | .lst ds, v => ∃ a xs, v = .ref a ∧ Ls K H F a xs ∧ RelL K H F ds xs
  | .tup ds, v => ∃ a xs, v = .ref a ∧ SqT K H a xs ∧ RelL K H F ds xs
  | .fn _ _, _ => False
noncomputable def RelL (K : PySem.W.Frag) (H : Hp) (F : Addr → Prop) : List D → List V → Prop
  | [], xs => xs = []
  | d :: ds, xs => ∃ y ys, xs = y :: ys ∧ Rel K H F d y ∧ RelL K H F ds ys
end
noncomputable def NT : HO → Prop
  | .tbl _ => False
  | _ => True
structure Sim (H H' : Hp) : Prop where
  nt : ∀ b o, NT o → H b = some o → H' b = some o
  tb : ∀ b ps, H b = some (.tbl ps) → ∃ qs, H' b = some (.tbl qs)
theorem Sim.of {H H' : Hp} (h : Same H H') : Sim H H' := ⟨fun b o _ e => h b o e, fun b ps e => ⟨ps, h b _ e⟩⟩
theorem Sim.refl (H : Hp) : Sim H H := ⟨fun b o _ e => e, fun b ps e => ⟨ps, e⟩⟩
theorem Sim.trans {H H1 H2 : Hp} (a : Sim H H1) (b : Sim H1 H2) : Sim H H2 := ⟨fun x o n e => b.nt x o n (a.nt x o n e), fun x ps e => by
  obtain ⟨qs, e⟩ := a.tb x ps e
  exact b.tb x qs e⟩
noncomputable def Fz (H : Hp) (a : Addr) (o : Obj) : Prop := H a = some (.frz o (.ext fun h => h.get? a = some o))
structure Lam where
  qual : Str
  params : Arguments
  body : Expr
  scope : Scope
  ps : List Str
  caps : List Str
class Tbs where
  ts : List (Addr × Str)
  lams : List (Nat × Lam)
variable [Tbs]
noncomputable def flV : D → V
  | .bl b => .bl b
  | .int i => .int i
  | .str x => .str x
  | _ => .non
noncomputable def CellsV (H : Hp) : List Addr → List D → Prop
  | [], ds => ds = []
  | c :: r, ds => ∃ d ds' o u, ds = d :: ds' ∧ flat d = true ∧ Fz H c o ∧ o.data = .cell (some u) ∧ RelV (flV d) u ∧ CellsV H r ds'
noncomputable def FnV (H : Hp) (k : Nat) (cs : List D) (a : Addr) : Prop := ∃ (L : Lam) (pm ctv : Value) (c' : Addr) (oc : Obj) (vs : Array Value) (tk : Tok) (cells : List Addr),
  Tbs.lams.lookup k = some L ∧ Fz H a (PySem.W.kla_obj "<lambda>" L.qual L.params L.body L.scope (L.caps.zip cells) pm c' ctv) ∧ Fz H c' oc ∧ oc.data = .fields vs ∧ vs[1]? = some (.str L.qual tk) ∧ cells.Nodup ∧ cells.length = L.caps.length ∧ CellsV H cells cs
theorem CellsV.keep {H H' : Hp} (k : ∀ a o, Fz H a o → Fz H' a o) : ∀ {cells : List Addr} {cs : List D}, CellsV H cells cs → CellsV H' cells cs
  | [], _, h => h
  | c :: r, cs, h => by
    obtain ⟨d, ds', o, u, e, h1, h2, h3, h4, h5⟩ := h
    exact ⟨d, ds', o, u, e, h1, k _ _ h2, h3, h4, CellsV.keep k h5⟩
theorem FnV.keep {H H' : Hp} (k : ∀ a o, Fz H a o → Fz H' a o) {n : Nat} {cs : List D} {a : Addr} (h : FnV H n cs a) : FnV H' n cs a := by
  obtain ⟨L, pm, ctv, c', oc, vs, tk, cells, h1, h2, h3, h4, h5, h6, h7, h8⟩ := h
  exact ⟨L, pm, ctv, c', oc, vs, tk, cells, h1, k _ _ h2, k _ _ h3, h4, h5, h6, h7, h8.keep k⟩
noncomputable def Tabs (H : Hp) : Prop := ∀ t ∈ Tbs.ts, ∃ ps, H t.1 = some (.tbl ps) ∧ TriplesOk ps.toList ∧ ∀ pos cv, codeAmong pos ps.toList = some cv → ∃ c o vs tk, cv = .ref c ∧ Fz H c o ∧ o.data = .fields vs ∧ vs[1]? = some (.str t.2 tk)
theorem Tabs.keep {H H' : Hp} (h : Tabs H) (k : ∀ b o, (∀ xs, o ≠ .lst xs) → H b = some o → H' b = some o) : Tabs H' := fun t ht => by
  obtain ⟨ps, h1, h2, h3⟩ := h t ht
  refine ⟨ps, k _ _ (fun xs z => nomatch z) h1, h2, fun pos cv e => ?_⟩
  obtain ⟨c, o, vs, tk, e1, e2, e3⟩ := h3 pos cv e
  exact ⟨c, o, vs, tk, e1, k _ _ (fun xs z => nomatch z) e2, e3⟩
noncomputable def FD (F : Addr → Prop) (H : Hp) : Prop := ∀ b, F b → (∃ xs, H b = some (.lst xs)) ∨ (∃ ps, H b = some (.tbl ps) ∧ ∃ t ∈ Tbs.ts, t.1 = b) ∨ ∃ φ, H b = some (.ext φ)
noncomputable def TF (F : Addr → Prop) : Prop := ∀ t ∈ Tbs.ts, F t.1
structure Gh where
  h : Hp
  R : Addr → Prop
noncomputable def Gh.free (G : Gh) (a : Addr) : Prop := G.h a = none ∧ ¬ G.R a
noncomputable def g0 : Gh := ⟨fun _ => none, fun _ => False⟩
structure Step (G : Gh) (F : Addr → Prop) (H : Hp) (F' : Addr → Prop) (H' : Hp) : Prop where
  keep : ∀ b o, NT o → H b = some o → ¬ F b → H' b = some o
  grow : ∀ b, F' b → F b ∨ H b = none
  res : ∀ b o, G.R b → F b → H b = some o → F' b ∧ H' b = some o
  tb : ∀ b ps, H b = some (.tbl ps) → ∃ qs, H' b = some (.tbl qs)
theorem Step.refl {G : Gh} {F : Addr → Prop} {H : Hp} : Step G F H F H := ⟨fun _ _ _ h _ => h, fun _ h => .inl h, fun _ _ _ h e => ⟨h, e⟩, fun _ ps e => ⟨ps, e⟩⟩
theorem Step.trans {G : Gh} {H H1 H2 : Hp} {F F1 F2 : Addr → Prop} (a : Step G F H F1 H1) (b : Step G F1 H1 F2 H2) : Step G F H F2 H2 where
  keep := fun x o t h n => b.keep x o t (a.keep x o t h n) fun z => by
    rcases a.grow x z with q | q
    · exact n q
    · rw [h] at q; cases q
  grow := fun x h => by
    rcases b.grow x h with q | q
    · exact a.grow x q
    · by_cases f : F x
      · exact .inl f
      · right
        cases e : H x with
        | none => rfl
        | some o =>
          by_cases t : NT o
          · rw [a.keep x o t e f] at q; cases q
          · cases o <;> first | (exact absurd trivial t) | skip
            obtain ⟨qs, z⟩ := a.tb x _ e
            rw [z] at q; cases q
  res := fun x o r h e => by
    obtain ⟨h1, e1⟩ := a.res x o r h e
    exact b.res x o r h1 e1
  tb := fun x ps e => by
    obtain ⟨qs, e⟩ := a.tb x ps e
    exact b.tb x qs e
theorem Step.of_same {G : Gh} {H H' : Hp} {F : Addr → Prop} (h : Same H H') : Step G F H F H' := ⟨fun b o _ e _ => h b o e, fun _ h => .inl h, fun b o _ f e => ⟨f, h b o e⟩, fun b ps e => ⟨ps, h b _ e⟩⟩
section
variable {K : PySem.W.Frag} {G : Gh} {H H' : Hp} {F F' : Addr → Prop}
theorem rd_keep {a : Addr} {u : HO} (t : NT u) (k : ∀ b o, NT o → H b = some o → ¬ F b → H' b = some o) (n : ¬ F a) (h : Rd H a u) : Rd H' a u := by
  rcases h with h | ⟨o, h⟩
  · exact .inl (k a _ t h n)
  · exact .inr ⟨o, k a _ trivial h n⟩
theorem sqt_keep {a : Addr} {xs : List V} (fd : FD F H) (k : ∀ b o, NT o → H b = some o → ¬ F b → H' b = some o) (h : SqT K H a xs) : SqT K H' a xs := by
  rcases h with h | h
  · refine .inl (rd_keep trivial k (fun z => ?_) h)
    rcases fd a z with ⟨ys, e⟩ | ⟨ys, e, _⟩ | ⟨ys, e⟩
    · rcases h with h | ⟨o, h⟩
      · rw [e] at h; cases h
      · rw [e] at h; cases h
    · rcases h with h | ⟨o, h⟩
      · rw [e] at h; cases h
      · rw [e] at h; cases h
    · rcases h with h | ⟨o, h⟩
      · rw [e] at h; cases h
      · rw [e] at h; cases h
  · exact .inr h
theorem Ls.step {a : Addr} {xs : List V} (s : Step G F H F' H') (h : Ls K H F a xs) : Ls K H' F' a xs := by
  rcases h with ⟨h1, h2⟩ | h
  · refine .inl ⟨rd_keep trivial s.keep h2 h1, fun z => ?_⟩
    rcases s.grow a z with q | q
    · exact h2 q
    · rcases h1 with h | ⟨o, h⟩
      · rw [h] at q; cases q
      · rw [h] at q; cases q
  · exact .inr h
theorem fz_keep (fd : FD F H) (k : ∀ b o, NT o → H b = some o → ¬ F b → H' b = some o) : ∀ a o, Fz H a o → Fz H' a o := fun a o h => by
  refine k a _ trivial h fun z => ?_
  unfold Fz at h
  rcases fd a z with ⟨ys, e⟩ | ⟨ys, e, _⟩ | ⟨ys, e⟩ <;> (rw [e] at h; cases h)
mutual
theorem Rel.step (fd : FD F H) (s : Step G F H F' H') : ∀ (d : D) (v : V), Rel K H F d v → Rel K H' F' d v
  | .non, v, h => by unfold Rel at h ⊢; exact h
  | .bl b, v, h => by unfold Rel at h ⊢; exact h
  | .int i, v, h => by unfold Rel at h ⊢; exact h
  | .str x, v, h => by unfold Rel at h ⊢; exact h
  | .lst ds, v, h => by
    unfold Rel at h ⊢
    obtain ⟨a, xs, e, h1, h3⟩ := h
    exact ⟨a, xs, e, h1.step s, RelL.step fd s ds xs h3⟩
  | .tup ds, v, h => by
    unfold Rel at h ⊢
    obtain ⟨a, xs, e, h1, h3⟩ := h
    exact ⟨a, xs, e, sqt_keep fd s.keep h1, RelL.step fd s ds xs h3⟩
  | .fn _ _, v, h => by unfold Rel at h; exact h.elim
theorem RelL.step (fd : FD F H) (s : Step G F H F' H') : ∀ (ds : List D) (xs : List V), RelL K H F ds xs → RelL K H' F' ds xs
  | [], xs, h => by unfold RelL at h ⊢; exact h
  | d :: ds, xs, h => by
    unfold RelL at h ⊢
    obtain ⟨y, ys, e, h1, h2⟩ := h
    exact ⟨y, ys, e, Rel.step fd s d y h1, RelL.step fd s ds ys h2⟩
end
theorem Rel.less (fd : FD F H) (hs : ∀ b, F' b → F b) {d : D} {v : V} (h : Rel K H F d v) : Rel K H F' d v :=
  Rel.step (G := g0) fd ⟨fun _ _ _ h _ => h, fun b z => .inl (hs b z), fun _ _ r _ _ => r.elim, fun _ ps e => ⟨ps, e⟩⟩ d v h
theorem RelL.less (fd : FD F H) (hs : ∀ b, F' b → F b) {ds : List D} {xs : List V} (h : RelL K H F ds xs) : RelL K H F' ds xs :=
  RelL.step (G := g0) fd ⟨fun _ _ _ h _ => h, fun b z => .inl (hs b z), fun _ _ r _ _ => r.elim, fun _ ps e => ⟨ps, e⟩⟩ ds xs h
mutual
theorem Rel.free (fd : FD F' H) : ∀ (d : D) (v : V), lf d = true → Rel K H F d v → Rel K H F' d v
  | .non, v, _, h => by unfold Rel at h ⊢; exact h
  | .bl b, v, _, h => by unfold Rel at h ⊢; exact h
  | .int i, v, _, h => by unfold Rel at h ⊢; exact h
  | .str x, v, _, h => by unfold Rel at h ⊢; exact h
  | .lst ds, v, l, h => by unfold lf at l; cases l
  | .tup ds, v, l, h => by
    unfold lf at l
    unfold Rel at h ⊢
    obtain ⟨a, xs, e, h1, h3⟩ := h
    exact ⟨a, xs, e, h1, RelL.free fd ds xs l h3⟩
  | .fn _ _, v, l, h => by unfold lf at l; cases l
theorem RelL.free (fd : FD F' H) : ∀ (ds : List D) (xs : List V), lfL ds = true → RelL K H F ds xs → RelL K H F' ds xs
  | [], xs, _, h => by unfold RelL at h ⊢; exact h
  | d :: ds, xs, l, h => by
    unfold lfL at l
    rw [Bool.and_eq_true] at l
    unfold RelL at h ⊢
    obtain ⟨y, ys, e, h1, h2⟩ := h
    exact ⟨y, ys, e, Rel.free fd d y l.1 h1, RelL.free fd ds ys l.2 h2⟩
end
theorem RelL.length : ∀ {ds : List D} {xs : List V}, RelL K H F ds xs → xs.length = ds.length
  | [], xs, h => by unfold RelL at h; subst h; rfl
  | d :: ds, xs, h => by
    unfold RelL at h
    obtain ⟨y, ys, e, _, h2⟩ := h
    subst e
    rw [List.length_cons, List.length_cons, RelL.length h2]
theorem RelL.get : ∀ {ds : List D} {xs : List V} {i : Nat} {d : D}, RelL K H F ds xs → ds[i]? = some d → ∃ v, xs[i]? = some v ∧ Rel K H F d v
  | [], _, _, _, _, e => by simp at e
  | d :: ds, xs, i, d', h, e => by
    unfold RelL at h
    obtain ⟨y, ys, q, h1, h2⟩ := h
    subst q
    cases i with
    | zero => simp at e; subst e; exact ⟨y, rfl, h1⟩
    | succ i =>
      obtain ⟨v, h3, h4⟩ := RelL.get (i := i) h2 (by simpa using e)
      exact ⟨v, by simpa using h3, h4⟩
theorem RelL.append : ∀ {ds es : List D} {xs ys : List V}, RelL K H F ds xs → RelL K H F es ys → RelL K H F (ds ++ es) (xs ++ ys)
  | [], es, xs, ys, h, h' => by unfold RelL at h; subst h; exact h'
  | d :: ds, es, xs, ys, h, h' => by
    unfold RelL at h
    obtain ⟨y, zs, q, h1, h2⟩ := h
    subst q
    show RelL K H F (d :: (ds ++ es)) (y :: (zs ++ ys))
    unfold RelL
    exact ⟨y, zs ++ ys, rfl, h1, RelL.append h2 h'⟩
theorem RelL.one {d : D} {v : V} (h : Rel K H F d v) : RelL K H F [d] [v] := by
  unfold RelL
  exact ⟨v, [], rfl, h, by unfold RelL; rfl⟩
theorem RelL.nil : RelL K H F [] [] := by unfold RelL; rfl
theorem RelL.cons {d : D} {v : V} {ds : List D} {xs : List V} (h : Rel K H F d v) (t : RelL K H F ds xs) : RelL K H F (d :: ds) (v :: xs) := by
  unfold RelL
  exact ⟨v, xs, rfl, h, t⟩
theorem RelL.take : ∀ {ds : List D} {xs : List V} (n : Nat), RelL K H F ds xs → RelL K H F (ds.take n) (xs.take n)
  | [], xs, n, h => by unfold RelL at h; subst h; simp; exact RelL.nil
  | d :: ds, xs, 0, h => by simp; exact RelL.nil
  | d :: ds, xs, n + 1, h => by
    unfold RelL at h
    obtain ⟨y, ys, q, h1, h2⟩ := h
    subst q
    rw [List.take_succ_cons, List.take_succ_cons]
    exact RelL.cons h1 (RelL.take n h2)
theorem RelL.drop : ∀ {ds : List D} {xs : List V} (n : Nat), RelL K H F ds xs → RelL K H F (ds.drop n) (xs.drop n)
  | [], xs, n, h => by unfold RelL at h; subst h; simp; exact RelL.nil
  | d :: ds, xs, 0, h => h
  | d :: ds, xs, n + 1, h => by
    unfold RelL at h
    obtain ⟨y, ys, q, h1, h2⟩ := h
    subst q
    rw [List.drop_succ_cons, List.drop_succ_cons]
    exact RelL.drop n h2
theorem RelL.set {d : D} {v : V} (r : Rel K H F d v) : ∀ {ds : List D} {xs : List V} (n : Nat), RelL K H F ds xs → RelL K H F (ds.set n d) (xs.set n v)
  | [], xs, n, h => by unfold RelL at h; subst h; simp; exact RelL.nil
  | e :: ds, xs, 0, h => by
    unfold RelL at h
    obtain ⟨y, ys, q, h1, h2⟩ := h
    subst q
    exact RelL.cons r h2
  | e :: ds, xs, n + 1, h => by
    unfold RelL at h
    obtain ⟨y, ys, q, h1, h2⟩ := h
    subst q
    exact RelL.cons h1 (RelL.set r n h2)
theorem RelL.dropLast {ds : List D} {xs : List V} (h : RelL K H F ds xs) : RelL K H F ds.dropLast xs.dropLast := by
  rw [List.dropLast_eq_take, List.dropLast_eq_take, h.length]
  exact h.take _
theorem RelL.cut {ds : List D} {xs : List V} (lo hi : Option Int) (h : RelL K H F ds xs) : RelL K H F (cutD ds lo hi) (cutV xs lo hi) := by
  unfold cutD cutV
  rw [h.length]
  exact (h.drop _).take _
end
noncomputable def RelB (K : PySem.W.Frag) (H : Hp) (F : Addr → Prop) (d : D) (v : V) : Prop := Rel K H F d v ∨ ∃ a xs ds, d = .lst ds ∧ v = .ref a ∧ H a = some (.lst xs) ∧ RelL K H F ds xs
noncomputable def RelM (m : Bool) (K : PySem.W.Frag) (H : Hp) (F : Addr → Prop) (d : D) (v : V) : Prop := if m = true then RelB K H F d v else Rel K H F d v
theorem RelM.b {m : Bool} {K : PySem.W.Frag} {H : Hp} {F : Addr → Prop} {d : D} {v : V} (h : RelM m K H F d v) : RelB K H F d v := by
  unfold RelM at h
  split at h
  · exact h
  · exact .inl h
theorem RelB.same {K : PySem.W.Frag} {G : Gh} {H H' : Hp} {F F' : Addr → Prop} {d : D} {v : V} (fd : FD F H) (s : Step G F H F' H') (k : Sim H H') (h : RelB K H F d v) : RelB K H' F' d v := by
  rcases h with h | ⟨a, xs, ds, e1, e2, h1, h2⟩
  · exact .inl (Rel.step fd s d v h)
  · exact .inr ⟨a, xs, ds, e1, e2, k.nt _ _ trivial h1, RelL.step fd s ds xs h2⟩
theorem RelM.step {m : Bool} {K : PySem.W.Frag} {G : Gh} {H H' : Hp} {F F' : Addr → Prop} {d : D} {v : V} (fd : FD F H) (s : Step G F H F' H') (k : m = true → Sim H H') (h : RelM m K H F d v) : RelM m K H' F' d v := by
  cases m with
  | true => exact RelB.same fd s (k rfl) h
  | false => exact Rel.step fd s d v h
noncomputable def SlOk (K : PySem.W.Frag) (G : Gh) (F : Addr → Prop) (H : Hp) (o : Option (Option V)) : Sl → Prop
  | .no => True
  | .val d => ∃ v, o = some (some v) ∧ Rel K H F d v
  | .own ds => ∃ a xs, o = some (some (.ref a)) ∧ F a ∧ G.free a ∧ H a = some (.lst xs) ∧ RelL K H F ds xs
  | .fnc k cs => ∃ a, o = some (some (.ref a)) ∧ FnV H k cs a
structure Ok (K : PySem.W.Frag) (G : Gh) (F : Addr → Prop) (σ : St) (H : Hp) (δ : Loc) : Prop where
  same : Sim G.h H
  fd : FD F H
  rf : ∀ b, G.R b → F b
  rl : ∀ b, G.R b → (∃ xs, H b = some (.lst xs)) ∨ ∃ φ, H b = some (.ext φ)
  tf : TF F
  tabs : Tabs H
  len : δ.length = σ.length
  sl : ∀ (i : Nat) (s : Sl), δ[i]? = some s → SlOk K G F H σ[i]? s
  apart : ∀ (i j : Nat) (ds es : List D) (a : Addr), δ[i]? = some (.own ds) → δ[j]? = some (.own es) → σ[i]? = some (some (.ref a)) → σ[j]? = some (some (.ref a)) → i = j
section
variable {K : PySem.W.Frag} {G : Gh} {H H' : Hp} {F F' : Addr → Prop} {σ : St} {δ : Loc}
theorem SlOk.same {o : Option (Option V)} (fd : FD F H) (k : Same H H') : ∀ {s : Sl}, SlOk K G F H o s → SlOk K G F H' o s
  | .no, _ => trivial
  | .val d, h => by
    obtain ⟨v, e, h⟩ := h
    exact ⟨v, e, Rel.step (G := G) fd (Step.of_same k) d v h⟩
  | .own ds, h => by
    obtain ⟨a, xs, e, h1, h2, h3, h4⟩ := h
    exact ⟨a, xs, e, h1, h2, k _ _ h3, RelL.step (G := G) fd (Step.of_same k) ds xs h4⟩
  | .fnc n cs, h => by
    obtain ⟨a, e, h⟩ := h
    exact ⟨a, e, h.keep fun a o z => k _ _ z⟩
theorem FD.same (fd : FD F H) (k : Same H H') : FD F H' := fun b h => (fd b h).imp (fun ⟨xs, e⟩ => ⟨xs, k _ _ e⟩) fun z => z.imp (fun ⟨xs, e, t⟩ => ⟨xs, k _ _ e, t⟩) fun ⟨φ, e⟩ => ⟨φ, k _ _ e⟩
theorem Ok.same' (h : Ok K G F σ H δ) (k : Same H H') : Ok K G F σ H' δ :=
  ⟨h.same.trans (.of k), h.fd.same k, h.rf, fun b z => (h.rl b z).imp (fun ⟨xs, e⟩ => ⟨xs, k _ _ e⟩) fun ⟨φ, e⟩ => ⟨φ, k _ _ e⟩, h.tf, h.tabs.keep fun b o _ e => k b o e, h.len, fun i s e => (h.sl i s e).same h.fd k, h.apart⟩
theorem same_new {H : Hp} {p : Addr} (h : H p = none) (o : HO) : Same H (upd H p o) := fun b u q => by rw [upd_ne (ne_of_none q h)]; exact q
theorem SlOk.less {o : Option (Option V)} (fd : FD F H) (hs : ∀ b, F' b → F b) : ∀ {s : Sl}, (∀ ds a, s = .own ds → o = some (some (.ref a)) → F' a) → SlOk K G F H o s → SlOk K G F' H o s
  | .no, _, _ => trivial
  | .val d, _, h => by
    obtain ⟨v, e, h⟩ := h
    exact ⟨v, e, Rel.less fd hs h⟩
  | .own ds, q, h => by
    obtain ⟨a, xs, e, h1, h2, h3, h4⟩ := h
    exact ⟨a, xs, e, q ds a rfl e, h2, h3, RelL.less fd hs h4⟩
  | .fnc n cs, _, h => h
theorem Ok.demote (h : Ok K G F σ H δ) {i : Nat} {ds : List D} {a : Addr} (e : δ[i]? = some (.own ds)) (ea : σ[i]? = some (some (.ref a))) :
    Ok K G (fun b => F b ∧ b ≠ a) σ H (δ.set i (.val (.lst ds))) ∧ Rel K H (fun b => F b ∧ b ≠ a) (.lst ds) (.ref a) := by
  have hi : i < δ.length := (List.getElem?_eq_some_iff.mp e).1
  obtain ⟨a', xs, e1, h1, h2, h3, h4⟩ := h.sl i _ e
  rw [ea] at e1; cases e1
  have hs : ∀ b, (F b ∧ b ≠ a) → F b := fun b z => z.1
  have r : Rel K H (fun b => F b ∧ b ≠ a) (.lst ds) (.ref a) := by
    unfold Rel
    exact ⟨a, xs, rfl, .inl ⟨.inl h3, fun z => z.2 rfl⟩, RelL.less h.fd hs h4⟩
  have tf' : TF fun b => F b ∧ b ≠ a := fun t ht => ⟨h.tf t ht, fun w => by
    obtain ⟨ps, e2, _⟩ := h.tabs t ht
    rw [w, h3] at e2; cases e2⟩
  refine ⟨⟨h.same, fun b z => h.fd b z.1, fun b z => ⟨h.rf b z, fun w => h2.2 (by rw [← w]; exact z)⟩, h.rl, tf', h.tabs, by rw [List.length_set]; exact h.len, fun j s q => ?_, fun j k es fs b q1 q2 => ?_⟩, r⟩
  · by_cases hj : j = i
    · subst hj
      rw [List.getElem?_set_self hi] at q; cases q
      exact ⟨.ref a, ea, r⟩
    · rw [List.getElem?_set_ne (Ne.symm hj)] at q
      refine (h.sl j s q).less h.fd hs fun es b z zb => ?_
      subst z
      obtain ⟨b', ys, e1, f1, _⟩ := h.sl j _ q
      rw [zb] at e1; cases e1
      exact ⟨f1, fun z => hj (h.apart j i es ds a q e (by rw [zb, z]) ea)⟩
  · by_cases hj : j = i
    · subst hj
      rw [List.getElem?_set_self hi] at q1; cases q1
    · by_cases hk : k = i
      · subst hk
        rw [List.getElem?_set_self hi] at q2; cases q2
      · rw [List.getElem?_set_ne (Ne.symm hj)] at q1
        rw [List.getElem?_set_ne (Ne.symm hk)] at q2
        exact h.apart j k es fs b q1 q2
theorem Ok.set (h : Ok K G F σ H δ) {i : Nat} {d : D} {v : V} (hi : i < δ.length) (r : Rel K H F d v) : Ok K G F (σ.set i (some v)) H (δ.set i (.val d)) := by
  have hi' : i < σ.length := by rw [← h.len]; exact hi
  refine ⟨h.same, h.fd, h.rf, h.rl, h.tf, h.tabs, by rw [List.length_set, List.length_set]; exact h.len, fun j s q => ?_, fun j k es fs b q1 q2 p1 p2 => ?_⟩
  · by_cases hj : j = i
    · subst hj
      rw [List.getElem?_set_self hi] at q; cases q
      exact ⟨v, by rw [List.getElem?_set_self hi'], r⟩
    · rw [List.getElem?_set_ne (Ne.symm hj)] at q ⊢
      exact h.sl j s q
  · by_cases hj : j = i
    · subst hj
      rw [List.getElem?_set_self hi] at q1; cases q1
    · by_cases hk : k = i
      · subst hk
        rw [List.getElem?_set_self hi] at q2; cases q2
      · rw [List.getElem?_set_ne (Ne.symm hj)] at q1 p1
        rw [List.getElem?_set_ne (Ne.symm hk)] at q2 p2
        exact h.apart j k es fs b q1 q2 p1 p2
theorem Ok.own (h : Ok K G F σ H δ) {i : Nat} {ds : List D} {xs : List V} {p : Addr} (hi : i < δ.length) (hp : F p) (hg : G.free p) (e : H p = some (.lst xs)) (r : RelL K H F ds xs)
    (hn : ∀ (j : Nat) es, δ[j]? = some (.own es) → σ[j]? ≠ some (some (.ref p))) : Ok K G F (σ.set i (some (.ref p))) H (δ.set i (.own ds)) := by
  have hi' : i < σ.length := by rw [← h.len]; exact hi
  refine ⟨h.same, h.fd, h.rf, h.rl, h.tf, h.tabs, by rw [List.length_set, List.length_set]; exact h.len, fun j s q => ?_, fun j k es fs b q1 q2 p1 p2 => ?_⟩
  · by_cases hj : j = i
    · subst hj
      rw [List.getElem?_set_self hi] at q; cases q
      exact ⟨p, xs, by rw [List.getElem?_set_self hi'], hp, hg, e, r⟩
    · rw [List.getElem?_set_ne (Ne.symm hj)] at q ⊢
      exact h.sl j s q
  · by_cases hj : j = i
    · by_cases hk : k = i
      · rw [hj, hk]
      · exfalso
        subst hj
        rw [List.getElem?_set_self hi'] at p1
        rw [List.getElem?_set_ne (Ne.symm hk)] at q2 p2
        cases p1
        exact hn k fs q2 p2
    · by_cases hk : k = i
      · exfalso
        subst hk
        rw [List.getElem?_set_self hi'] at p2
        rw [List.getElem?_set_ne (Ne.symm hj)] at q1 p1
        cases p2
        exact hn j es q1 p1
      · rw [List.getElem?_set_ne (Ne.symm hj)] at q1 p1
        rw [List.getElem?_set_ne (Ne.symm hk)] at q2 p2
        exact h.apart j k es fs b q1 q2 p1 p2
theorem Ok.write (h : Ok K G F σ H δ) {i : Nat} {ds es : List D} {a : Addr} {ys : List V} (e : δ[i]? = some (.own ds)) (ea : σ[i]? = some (some (.ref a))) (r : RelL K H F es ys) :
    Ok K G F σ (upd H a (.lst ys)) (δ.set i (.own es)) ∧ Step G F H F (upd H a (.lst ys)) := by
  have hi : i < δ.length := (List.getElem?_eq_some_iff.mp e).1
  have e' := e
  obtain ⟨a', xs, e1, h1, h2, h3, h4⟩ := h.sl i _ e
  rw [ea] at e1; cases e1
  have st : Step G F H F (upd H a (.lst ys)) := ⟨fun b o _ q n => by
    rw [upd_ne (fun z : b = a => n (by rw [z]; exact h1))]; exact q, fun b z => .inl z, fun b o r z e => ⟨z, by rw [upd_ne (fun w : b = a => h2.2 (by rw [← w]; exact r))]; exact e⟩, fun b ps e => ⟨ps, by rw [upd_ne (fun w : b = a => by rw [w, h3] at e; cases e)]; exact e⟩⟩
  have tb' : Tabs (upd H a (.lst ys)) := h.tabs.keep fun b o n e => by rw [upd_ne (fun w : b = a => by rw [w, h3] at e; cases e; exact n _ rfl)]; exact e
  refine ⟨⟨⟨fun b o t q => ?_, fun b ps q => ?_⟩, fun b z => ?_, h.rf, fun b z => ?_, h.tf, tb', by rw [List.length_set]; exact h.len, fun j s q => ?_, fun j k es' fs b q1 q2 p1 p2 => ?_⟩, st⟩
  · have := h.same.nt b o t q
    rw [upd_ne (fun z : b = a => by rw [z, h2.1] at q; cases q)]
    exact this
  · rw [upd_ne (fun z : b = a => by rw [z, h2.1] at q; cases q)]
    exact h.same.tb b ps q
  · by_cases hb : b = a
    · subst hb; exact .inl ⟨ys, upd_same⟩
    · rw [upd_ne hb]; exact h.fd b z
  · by_cases hb : b = a
    · subst hb; exact .inl ⟨ys, upd_same⟩
    · rw [upd_ne hb]; exact h.rl b z
  · by_cases hj : j = i
    · subst hj
      rw [List.getElem?_set_self hi] at q; cases q
      exact ⟨a, ys, ea, h1, h2, upd_same, RelL.step h.fd st es ys r⟩
    · rw [List.getElem?_set_ne (Ne.symm hj)] at q
      have z := h.sl j s q
      cases s with
      | no => trivial
      | fnc n cs =>
        obtain ⟨v, e, z⟩ := z
        exact ⟨v, e, z.keep (fz_keep h.fd st.keep)⟩
      | val d =>
        obtain ⟨v, e, z⟩ := z
        exact ⟨v, e, Rel.step h.fd st d v z⟩
      | own fs =>
        obtain ⟨b, zs, e, f1, f2, f3, f4⟩ := z
        refine ⟨b, zs, e, f1, f2, ?_, RelL.step h.fd st fs zs f4⟩
        rw [upd_ne (fun w : b = a => hj (h.apart j i fs ds a q e' (by rw [e, w]) ea))]
        exact f3
  · have un : ∀ (m : Nat) (gs : List D), (δ.set i (.own es))[m]? = some (.own gs) → ∃ hs, δ[m]? = some (.own hs) := fun m gs q => by
      by_cases hm : m = i
      · subst hm; exact ⟨ds, e⟩
      · rw [List.getElem?_set_ne (Ne.symm hm)] at q; exact ⟨gs, q⟩
    obtain ⟨g1, q1⟩ := un j _ q1
    obtain ⟨g2, q2⟩ := un k _ q2
    exact h.apart j k g1 g2 b q1 q2 p1 p2
theorem Step.of_sim (rl : ∀ b, G.R b → (∃ xs, H b = some (.lst xs)) ∨ ∃ φ, H b = some (.ext φ)) (k : Sim H H') : Step G F H F H' := ⟨fun b o t e _ => k.nt b o t e, fun b z => .inl z, fun b o r f e => ⟨f, by
  rcases rl b r with ⟨xs, e2⟩ | ⟨xs, e2⟩
  · rw [e] at e2
    cases e2
    exact k.nt b _ trivial e
  · rw [e] at e2
    cases e2
    exact k.nt b _ trivial e⟩, k.tb⟩
theorem Ok.call (h : Ok K G F σ H δ) (k : Sim H H') (t : Tabs H') : Ok K G F σ H' δ ∧ Step G F H F H' := by
  have st : Step G F H F H' := Step.of_sim h.rl k
  refine ⟨⟨h.same.trans k, fun b z => (h.fd b z).imp (fun ⟨xs, e⟩ => ⟨xs, k.nt _ _ trivial e⟩) fun z => z.imp (fun ⟨ps, e, t⟩ => let ⟨qs, e⟩ := k.tb b ps e; ⟨qs, e, t⟩) fun ⟨φ, e⟩ => ⟨φ, k.nt _ _ trivial e⟩, h.rf, fun b z => (h.rl b z).imp (fun ⟨xs, e⟩ => ⟨xs, k.nt _ _ trivial e⟩) fun ⟨φ, e⟩ => ⟨φ, k.nt _ _ trivial e⟩, h.tf, t, h.len, fun i s e => ?_, h.apart⟩, st⟩
  have q := h.sl i s e
  cases s with
  | no => trivial
  | fnc n cs =>
    obtain ⟨v, e, r⟩ := q
    exact ⟨v, e, r.keep (fz_keep h.fd st.keep)⟩
  | val d =>
    obtain ⟨v, e, r⟩ := q
    exact ⟨v, e, Rel.step h.fd st d v r⟩
  | own ds =>
    obtain ⟨a, xs, e, h1, h2, h3, h4⟩ := q
    exact ⟨a, xs, e, h1, h2, k.nt _ _ trivial h3, RelL.step h.fd st ds xs h4⟩
end
end PP
end
section
namespace PP
open PySem L2 PyProof.Rows PySem.SeqAt
variable [Tbs]
mutual
noncomputable def RdV (h : Heap) : D → Value → Prop
  | .non, u => u = .none
  | .bl b, u => u = .bool b
  | .int i, u => ∃ t, u = .int i t
  | .str x, u => ∃ t, u = .str x t
  | .lst ds, u => ∃ a its, u = .ref a ∧ h.IsList a its ∧ RdL h ds its.toList
  | .tup ds, u => ∃ a its, u = .ref a ∧ h.IsTuple a its ∧ RdL h ds its.toList
  | .fn _ _, _ => False
noncomputable def RdL (h : Heap) : List D → List Value → Prop
  | [], us => us = []
  | d :: ds, us => ∃ w ws, us = w :: ws ∧ RdV h d w ∧ RdL h ds ws
end
mutual
theorem rdV_of {X : Cx} {pins : List (Addr × Obj)} {σ : L2.St} {H : Hp} {s : Shared} {F : Addr → Prop} (I : Inv X pins σ H s) : ∀ (d : D) (v : V) (u : Value), Rel X.K H F d v → RelV v u → RdV s.heap d u
  | .non, v, u, h, r => by unfold Rel at h; subst h; unfold RdV; exact r
  | .bl b, v, u, h, r => by unfold Rel at h; subst h; unfold RdV; exact r
  | .int b, v, u, h, r => by unfold Rel at h; subst h; unfold RdV; exact r
  | .str b, v, u, h, r => by unfold Rel at h; subst h; unfold RdV; exact r
  | .lst ds, v, u, h, r => by
    unfold Rel at h
    obtain ⟨a, xs, e, h1, h3⟩ := h
    subst e
    cases (show u = Value.ref a from r)
    obtain ⟨its, rv, p, hz⟩ := I.list h1.sq
    unfold RdV
    exact ⟨a, its.toArray, rfl, p.isList, rdL_of I ds xs its h3 rv⟩
  | .tup ds, v, u, h, r => by
    unfold Rel at h
    obtain ⟨a, xs, e, h1, h3⟩ := h
    subst e
    cases (show u = Value.ref a from r)
    obtain ⟨its, rv, p, hz⟩ := I.tuple h1
    unfold RdV
    exact ⟨a, its.toArray, rfl, p, rdL_of I ds xs its h3 rv⟩
  | .fn _ _, v, u, h, r => by unfold Rel at h; exact h.elim
theorem rdL_of {X : Cx} {pins : List (Addr × Obj)} {σ : L2.St} {H : Hp} {s : Shared} {F : Addr → Prop} (I : Inv X pins σ H s) : ∀ (ds : List D) (xs : List V) (us : List Value), RelL X.K H F ds xs → Vals xs us → RdL s.heap ds us
  | [], xs, us, h, r => by unfold RelL at h; subst h; cases r; unfold RdL; rfl
  | d :: ds, xs, us, h, r => by
    unfold RelL at h
    obtain ⟨y, ys, e, h1, h2⟩ := h
    subst e
    cases r with
    | cons r1 r2 =>
      unfold RdL
      exact ⟨_, _, rfl, rdV_of I d y _ h1 r1, rdL_of I ds ys _ h2 r2⟩
end
theorem rdB_of {X : Cx} {pins : List (Addr × Obj)} {σ : L2.St} {H : Hp} {s : Shared} {F : Addr → Prop} (I : Inv X pins σ H s) {d : D} {v : V} {u : Value} (h : RelB X.K H F d v) (r : RelV v u) : RdV s.heap d u := by
  rcases h with h | ⟨a, xs, ds, rfl, rfl, h1, h2⟩
  · exact rdV_of I d v u h r
  · cases (show u = Value.ref a from r)
    obtain ⟨its, rv, p, hz⟩ := I.list (.inl (.inl h1))
    unfold RdV
    exact ⟨a, its.toArray, rfl, p.isList, rdL_of I ds xs its h2 rv⟩
mutual
theorem RdV.inj {h : Heap} : ∀ (d e : D) (u : Value), RdV h d u → RdV h e u → d = e
  | .non, e, u, a, b => by
    unfold RdV at a; subst a
    cases e <;> unfold RdV at b <;> first | rfl | (obtain ⟨_, _, b, _⟩ := b; cases b; done) | (obtain ⟨_, b⟩ := b; cases b; done) | (cases b; done)
  | .bl x, e, u, a, b => by
    unfold RdV at a; subst a
    cases e <;> unfold RdV at b <;> first | (cases b; rfl) | (obtain ⟨_, _, b, _⟩ := b; cases b; done) | (obtain ⟨_, b⟩ := b; cases b; done) | (cases b; done)
  | .int x, e, u, a, b => by
    unfold RdV at a; obtain ⟨t, a⟩ := a; subst a
    cases e <;> unfold RdV at b <;> first | (obtain ⟨_, _, b, _⟩ := b; cases b; done) | (obtain ⟨_, b⟩ := b; cases b; rfl) | (obtain ⟨_, b⟩ := b; cases b; done) | (cases b; done)
  | .str x, e, u, a, b => by
    unfold RdV at a; obtain ⟨t, a⟩ := a; subst a
    cases e <;> unfold RdV at b <;> first | (obtain ⟨_, _, b, _⟩ := b; cases b; done) | (obtain ⟨_, b⟩ := b; cases b; rfl) | (obtain ⟨_, b⟩ := b; cases b; done) | (cases b; done)
  | .lst ds, e, u, a, b => by
    unfold RdV at a; obtain ⟨l, its, a, h1, h2⟩ := a; subst a
    cases e with
    | lst es =>
      unfold RdV at b; obtain ⟨l', its', b, k1, k2⟩ := b; cases b
      obtain ⟨o, g1, g2, n, g3⟩ := h1
      obtain ⟨o', f1, f2, n', f3⟩ := k1
      rw [g1] at f1; cases f1
      rw [g3] at f3; cases f3
      rw [RdL.inj ds es _ h2 k2]
    | tup es =>
      unfold RdV at b; obtain ⟨l', its', b, k1, k2⟩ := b; cases b
      obtain ⟨o, g1, g2, _⟩ := h1
      obtain ⟨o', f1, f2, _⟩ := k1
      rw [g1] at f1; cases f1
      rw [g2] at f2; injection f2 with f2; exact absurd f2 (by decide)
    | _ => unfold RdV at b; first | (obtain ⟨_, b⟩ := b; cases b) | cases b
  | .tup ds, e, u, a, b => by
    unfold RdV at a; obtain ⟨l, its, a, h1, h2⟩ := a; subst a
    cases e with
    | tup es =>
      unfold RdV at b; obtain ⟨l', its', b, k1, k2⟩ := b; cases b
      obtain ⟨o, g1, g2, n, g3⟩ := h1
      obtain ⟨o', f1, f2, n', f3⟩ := k1
      rw [g1] at f1; cases f1
      rw [g3] at f3; cases f3
      rw [RdL.inj ds es _ h2 k2]
    | lst es =>
      unfold RdV at b; obtain ⟨l', its', b, k1, k2⟩ := b; cases b
      obtain ⟨o, g1, g2, _⟩ := h1
      obtain ⟨o', f1, f2, _⟩ := k1
      rw [g1] at f1; cases f1
      rw [g2] at f2; injection f2 with f2; exact absurd f2 (by decide)
    | _ => unfold RdV at b; first | (obtain ⟨_, b⟩ := b; cases b) | cases b
  | .fn _ _, e, u, a, b => by unfold RdV at a; exact a.elim
theorem RdL.inj {h : Heap} : ∀ (ds es : List D) (us : List Value), RdL h ds us → RdL h es us → ds = es
  | [], es, us, a, b => by
    unfold RdL at a; subst a
    cases es with
    | nil => rfl
    | cons e es => unfold RdL at b; obtain ⟨_, _, b, _⟩ := b; cases b
  | d :: ds, es, us, a, b => by
    unfold RdL at a; obtain ⟨w, ws, a, h1, h2⟩ := a; subst a
    cases es with
    | nil => unfold RdL at b; cases b
    | cons e es =>
      unfold RdL at b; obtain ⟨_, _, b, k1, k2⟩ := b; cases b
      rw [RdV.inj d e w h1 k1, RdL.inj ds es ws h2 k2]
end
mutual
theorem eqD_refl : ∀ d : D, dep d < 100000 → eqD d d = true
  | .non, _ => by unfold eqD; rfl
  | .bl b, _ => by unfold eqD; simp
  | .int b, _ => by unfold eqD; simp
  | .str b, _ => by unfold eqD; simp
  | .lst ds, h => by unfold eqD; exact eqDs_refl ds (by unfold dep at h; omega)
  | .tup ds, h => by unfold eqD; exact eqDs_refl ds (by unfold dep at h; omega)
  | .fn _ _, h => by unfold dep at h; omega
theorem eqDs_refl : ∀ ds : List D, depL ds < 100000 → eqDs ds ds = true
  | [], _ => by unfold eqDs; rfl
  | d :: ds, h => by
    unfold depL at h
    unfold eqDs
    rw [eqD_refl d (by omega), eqDs_refl ds (by omega)]
    rfl
end
noncomputable def pairD (ds es : List D) (j : Nat) : Bool := match ds[j]?, es[j]? with
  | some x, some y => eqD x y
  | _, _ => false
theorem pairD_all : ∀ (ds es : List D), (List.range (min ds.length es.length)).all (pairD ds es) = true ∧ ds.length = es.length ↔ eqDs ds es = true
  | [], [] => by unfold eqDs; simp
  | [], _ :: _ => by unfold eqDs; simp
  | _ :: _, [] => by unfold eqDs; simp
  | d :: ds, e :: es => by
    have ih := pairD_all ds es
    have e1 : min (d :: ds).length (e :: es).length = min ds.length es.length + 1 := by simp only [List.length_cons]; omega
    rw [e1, List.range_succ_eq_map, List.all_cons, List.all_map]
    have e2 : (pairD (d :: ds) (e :: es) ∘ Nat.succ) = pairD ds es := by funext j; simp [pairD]
    rw [e2]
    unfold eqDs
    rw [Bool.and_eq_true, Bool.and_eq_true, ← ih]
    have e3 : pairD (d :: ds) (e :: es) 0 = eqD d e := rfl
    rw [e3]
    simp only [List.length_cons]
    constructor
    · rintro ⟨⟨a, b⟩, c⟩; exact ⟨a, b, by omega⟩
    · rintro ⟨a, b, c⟩; exact ⟨⟨a, b⟩, by omega⟩
theorem eqDs_len {ds es : List D} (h : ds.length = es.length) : (List.range ds.length).all (pairD ds es) = eqDs ds es := by
  have q := pairD_all ds es
  rw [← h, Nat.min_self] at q
  rw [Bool.eq_iff_iff]
  rw [← q]
  simp
theorem eqDs_ne {ds es : List D} (h : ds.length ≠ es.length) : eqDs ds es = false := by
  have q := pairD_all ds es
  rw [Bool.eq_false_iff]
  intro z
  exact h (q.mpr z).2
theorem eqDs_both (ds es : List D) : ((List.range (min ds.length es.length)).all (pairD ds es) && ds.length == es.length) = eqDs ds es := by
  have q := pairD_all ds es
  rw [Bool.eq_iff_iff, Bool.and_eq_true, ← q]
  simp
theorem RdL.length {h : Heap} : ∀ {ds : List D} {us : List Value}, RdL h ds us → us.length = ds.length
  | [], us, a => by unfold RdL at a; subst a; rfl
  | d :: ds, us, a => by
    unfold RdL at a; obtain ⟨w, ws, a, _, h2⟩ := a; subst a
    rw [List.length_cons, List.length_cons, RdL.length h2]
mutual
theorem eqAt_D : ∀ (a b : D) (A : Around) (s : Shared) (u v : Value), RdV s.heap a u → RdV s.heap b v → A.units + min (dep a) (dep b) < cLine → EqAt A s u v (eqD a b)
  | .non, b, A, s, u, v, ra, rb, hu => by
    unfold RdV at ra; subst ra
    cases b with
    | non => unfold RdV at rb; subst rb; unfold eqD; exact EqAt.same _
    | bl b => unfold RdV at rb; subst rb; unfold eqD; exact EqAt.none_bool b
    | int b => unfold RdV at rb; obtain ⟨t, rfl⟩ := rb; unfold eqD; exact EqAt.none_int b t
    | str b => unfold RdV at rb; obtain ⟨t, rfl⟩ := rb; unfold eqD; exact EqAt.none_str b t
    | lst ds => unfold RdV at rb; obtain ⟨l, its, rfl, h1, h2⟩ := rb; unfold eqD; exact EqAt.none_list h1 (by omega)
    | tup ds => unfold RdV at rb; obtain ⟨l, its, rfl, h1, h2⟩ := rb; unfold eqD; exact EqAt.none_tuple h1 (by omega)
    | fn _ _ => unfold RdV at rb; exact rb.elim
  | .bl a, b, A, s, u, v, ra, rb, hu => by
    unfold RdV at ra; subst ra
    cases b with
    | non => unfold RdV at rb; subst rb; unfold eqD; exact EqAt.bool_none a
    | bl b => unfold RdV at rb; subst rb; unfold eqD; exact EqAt.bool_bool a b
    | int b => unfold RdV at rb; obtain ⟨t, rfl⟩ := rb; unfold eqD; exact EqAt.bool_int a b t
    | str b => unfold RdV at rb; obtain ⟨t, rfl⟩ := rb; unfold eqD; exact EqAt.bool_str a b t
    | lst ds => unfold RdV at rb; obtain ⟨l, its, rfl, h1, h2⟩ := rb; unfold eqD; exact EqAt.bool_list a h1 (by omega)
    | tup ds => unfold RdV at rb; obtain ⟨l, its, rfl, h1, h2⟩ := rb; unfold eqD; exact EqAt.bool_tuple a h1 (by omega)
    | fn _ _ => unfold RdV at rb; exact rb.elim
  | .int a, b, A, s, u, v, ra, rb, hu => by
    unfold RdV at ra; obtain ⟨t', rfl⟩ := ra
    cases b with
    | non => unfold RdV at rb; subst rb; unfold eqD; exact EqAt.int_none a t'
    | bl b => unfold RdV at rb; subst rb; unfold eqD; exact EqAt.int_bool a t' b
    | int b => unfold RdV at rb; obtain ⟨t, rfl⟩ := rb; unfold eqD; exact EqAt.int_int a t' b t
    | str b => unfold RdV at rb; obtain ⟨t, rfl⟩ := rb; unfold eqD; exact EqAt.int_str a t' b t
    | lst ds => unfold RdV at rb; obtain ⟨l, its, rfl, h1, h2⟩ := rb; unfold eqD; exact EqAt.int_list a t' h1 (by omega)
    | tup ds => unfold RdV at rb; obtain ⟨l, its, rfl, h1, h2⟩ := rb; unfold eqD; exact EqAt.int_tuple a t' h1 (by omega)
    | fn _ _ => unfold RdV at rb; exact rb.elim
  | .str a, b, A, s, u, v, ra, rb, hu => by
    unfold RdV at ra; obtain ⟨t', rfl⟩ := ra
    cases b with
    | non => unfold RdV at rb; subst rb; unfold eqD; exact EqAt.str_none a t'
    | bl b => unfold RdV at rb; subst rb; unfold eqD; exact EqAt.str_bool a t' b
    | int b => unfold RdV at rb; obtain ⟨t, rfl⟩ := rb; unfold eqD; exact EqAt.str_int a t' b t
    | str b => unfold RdV at rb; obtain ⟨t, rfl⟩ := rb; unfold eqD; exact EqAt.str_str a t' b t
    | lst ds => unfold RdV at rb; obtain ⟨l, its, rfl, h1, h2⟩ := rb; unfold eqD; exact EqAt.str_list a t' h1 (by omega)
    | tup ds => unfold RdV at rb; obtain ⟨l, its, rfl, h1, h2⟩ := rb; unfold eqD; exact EqAt.str_tuple a t' h1 (by omega)
    | fn _ _ => unfold RdV at rb; exact rb.elim
  | .lst ds, b, A, s, u, v, ra, rb, hu => by
    have ra' := ra
    unfold RdV at ra; obtain ⟨l, its, rfl, h1, h2⟩ := ra
    cases b with
    | non => unfold RdV at rb; subst rb; unfold eqD; exact EqAt.list_none h1 (by omega)
    | bl b => unfold RdV at rb; subst rb; unfold eqD; exact EqAt.list_bool b h1 (by omega)
    | int b => unfold RdV at rb; obtain ⟨t, rfl⟩ := rb; unfold eqD; exact EqAt.list_int b t h1 (by omega)
    | str b => unfold RdV at rb; obtain ⟨t, rfl⟩ := rb; unfold eqD; exact EqAt.list_str b t h1 (by omega)
    | tup es => unfold RdV at rb; obtain ⟨l', its', rfl, k1, k2⟩ := rb; unfold eqD; exact EqAt.list_tuple h1 k1 (by omega)
    | lst es =>
      have rb' := rb
      unfold RdV at rb; obtain ⟨l', its', rfl, k1, k2⟩ := rb
      by_cases hl : l = l'
      · subst hl
        have e := RdV.inj _ _ _ ra' rb'
        cases e
        have hd : dep (.lst ds) < 100000 := by rw [Nat.min_self] at hu; have : cLine = 9900 := rfl; omega
        rw [eqD_refl _ hd]
        exact EqAt.same _
      · unfold eqD
        have n1 : its.size = ds.length := by simpa using h2.length
        have n2 : its'.size = es.length := by simpa using k2.length
        have he : ∀ j (j1 : j < its.size) (j2 : j < its'.size), EqAt A.in1 s its[j] its'[j] (pairD ds es j) := fun j j1 j2 => by
          have q := eqAt_DL ds es A.in1 s its.toList its'.toList h2 k2 (by show A.units + 1 + _ < _; unfold dep at hu; omega) j (by simpa using j1) (by simpa using j2)
          simpa using q
        refine EqAt.of_refs hl ?_
        by_cases hsz : its.size = its'.size
        · rw [← eqDs_len (by omega : ds.length = es.length), ← n1]
          exact RcAt.lists h1 k1 hsz (by omega) he
        · rw [eqDs_ne (by omega : ds.length ≠ es.length)]
          exact RcAt.lists_lengths h1 k1 (by simpa using hsz) (by omega)
    | fn _ _ => unfold RdV at rb; exact rb.elim
  | .tup ds, b, A, s, u, v, ra, rb, hu => by
    have ra' := ra
    unfold RdV at ra; obtain ⟨l, its, rfl, h1, h2⟩ := ra
    cases b with
    | non => unfold RdV at rb; subst rb; unfold eqD; exact EqAt.tuple_none h1 (by omega)
    | bl b => unfold RdV at rb; subst rb; unfold eqD; exact EqAt.tuple_bool b h1 (by omega)
    | int b => unfold RdV at rb; obtain ⟨t, rfl⟩ := rb; unfold eqD; exact EqAt.tuple_int b t h1 (by omega)
    | str b => unfold RdV at rb; obtain ⟨t, rfl⟩ := rb; unfold eqD; exact EqAt.tuple_str b t h1 (by omega)
    | lst es => unfold RdV at rb; obtain ⟨l', its', rfl, k1, k2⟩ := rb; unfold eqD; exact EqAt.tuple_list h1 k1 (by omega)
    | tup es =>
      have rb' := rb
      unfold RdV at rb; obtain ⟨l', its', rfl, k1, k2⟩ := rb
      by_cases hl : l = l'
      · subst hl
        have e := RdV.inj _ _ _ ra' rb'
        cases e
        have hd : dep (.tup ds) < 100000 := by rw [Nat.min_self] at hu; have : cLine = 9900 := rfl; omega
        rw [eqD_refl _ hd]
        exact EqAt.same _
      · unfold eqD
        have n1 : its.size = ds.length := by simpa using h2.length
        have n2 : its'.size = es.length := by simpa using k2.length
        have he : ∀ j (j1 : j < its.size) (j2 : j < its'.size), EqAt A.in1 s its[j] its'[j] (pairD ds es j) := fun j j1 j2 => by
          have q := eqAt_DL ds es A.in1 s its.toList its'.toList h2 k2 (by show A.units + 1 + _ < _; unfold dep at hu; omega) j (by simpa using j1) (by simpa using j2)
          simpa using q
        refine EqAt.of_refs hl ?_
        rw [← eqDs_both, ← n1, ← n2]
        exact RcAt.tuples h1 k1 (by omega) he
    | fn _ _ => unfold RdV at rb; exact rb.elim
  | .fn _ _, b, A, s, u, v, ra, rb, hu => by unfold RdV at ra; exact ra.elim
theorem eqAt_DL : ∀ (ds es : List D) (A : Around) (s : Shared) (us vs : List Value), RdL s.heap ds us → RdL s.heap es vs → A.units + min (depL ds) (depL es) < cLine → ∀ j (h1 : j < us.length) (h2 : j < vs.length), EqAt A s us[j] vs[j] (pairD ds es j)
  | [], _, _, _, us, _, ra, _, _, j, h1, _ => by unfold RdL at ra; subst ra; exact absurd h1 (Nat.not_lt_zero _)
  | _ :: _, [], _, _, _, vs, _, rb, _, j, _, h2 => by unfold RdL at rb; subst rb; exact absurd h2 (Nat.not_lt_zero _)
  | d :: ds, e :: es, A, s, us, vs, ra, rb, hu, j, h1, h2 => by
    unfold RdL at ra rb
    obtain ⟨w, ws, rfl, a1, a2⟩ := ra
    obtain ⟨w', ws', rfl, b1, b2⟩ := rb
    unfold depL at hu
    cases j with
    | zero => exact eqAt_D d e A s w w' a1 b1 (by omega)
    | succ j =>
      have q := eqAt_DL ds es A s ws ws' a2 b2 (by omega) j (by simpa using h1) (by simpa using h2)
      simpa [pairD] using q
end
end PP
end
section
namespace PP
open PySem L2 PyProof.Rows PySem.SeqAt
variable [Tbs]
section
variable {X : Cx}
theorem op_eqD (hu : X.A.units + 200 < cLine) : OpR X (compareOp .Eq) (fun x y H Q => ∃ F a b, RelB X.K H F a x ∧ RelB X.K H F b y ∧ depOk a b = true ∧ Q (.bl (eqD a b)) H) := by
  intro pins s σ H x y v u Q I rx ry h
  obtain ⟨F, a, b, ha, hb, hk, q⟩ := h
  have ra := rdB_of I ha rx
  have rb := rdB_of I hb ry
  unfold depOk at hk
  rw [Bool.and_eq_true] at hk
  obtain ⟨hk, hd⟩ := hk
  replace hd := of_decide_eq_true hd
  have fin : ∀ k : Bool, k = eqD a b → EP X pins σ Q (.bool k) s := fun k e => ⟨.bl k, H, I, rfl, by rw [e]; exact q⟩
  cases a <;> cases b <;> first
    | (exact absurd (show false = true from hk) Bool.false_ne_true)
    | skip
  · unfold RdV at ra rb; subst ra; subst rb
    exact RcAt.bool_bool _ _ _ _ _ _ (fin _ (by unfold eqD; rfl))
  · unfold RdV at ra rb; obtain ⟨t, rfl⟩ := ra; obtain ⟨t', rfl⟩ := rb
    exact RcAt.int_int _ _ _ _ _ _ _ _ (fin _ (by unfold eqD; rfl))
  · unfold RdV at ra rb; obtain ⟨t, rfl⟩ := ra; obtain ⟨t', rfl⟩ := rb
    exact RcAt.str_str _ _ _ _ _ _ _ _ (fin _ (by unfold eqD; rfl))
  · rename_i ds es
    unfold RdV at ra rb; obtain ⟨l, its, rfl, h1, h2⟩ := ra; obtain ⟨l', its', rfl, k1, k2⟩ := rb
    have n1 : its.size = ds.length := by simpa using h2.length
    have n2 : its'.size = es.length := by simpa using k2.length
    have he : ∀ j (j1 : j < its.size) (j2 : j < its'.size), EqAt X.A.in1 s its[j] its'[j] (pairD ds es j) := fun j j1 j2 => by
      have q := eqAt_DL ds es X.A.in1 s its.toList its'.toList h2 k2 (by show X.A.units + 1 + _ < _; unfold dep at hd; omega) j (by simpa using j1) (by simpa using j2)
      simpa using q
    by_cases hsz : its.size = its'.size
    · refine eq_listAt h1 k1 hsz (by omega) he (fin _ ?_)
      unfold eqD
      rw [n1]
      exact eqDs_len (by omega)
    · refine eq_list_lengthsAt h1 k1 (by simpa using hsz) (by omega) (fin _ ?_)
      unfold eqD
      exact (eqDs_ne (by omega)).symm
  · rename_i ds es
    unfold RdV at ra rb; obtain ⟨l, its, rfl, h1, h2⟩ := ra; obtain ⟨l', its', rfl, k1, k2⟩ := rb
    have n1 : its.size = ds.length := by simpa using h2.length
    have n2 : its'.size = es.length := by simpa using k2.length
    have he : ∀ j (j1 : j < its.size) (j2 : j < its'.size), EqAt X.A.in1 s its[j] its'[j] (pairD ds es j) := fun j j1 j2 => by
      have q := eqAt_DL ds es X.A.in1 s its.toList its'.toList h2 k2 (by show X.A.units + 1 + _ < _; unfold dep at hd; omega) j (by simpa using j1) (by simpa using j2)
      simpa using q
    refine eq_tupleAt h1 k1 (by omega) he (fin _ ?_)
    unfold eqD
    rw [n1, n2]
    exact eqDs_both ds es
theorem op_neD (hu : X.A.units + 200 < cLine) : OpR X (compareOp .NotEq) (fun x y H Q => ∃ F a b, RelB X.K H F a x ∧ RelB X.K H F b y ∧ depOk a b = true ∧ Q (.bl (!eqD a b)) H) := by
  intro pins s σ H x y v u Q I rx ry h
  obtain ⟨F, a, b, ha, hb, hk, q⟩ := h
  have ra := rdB_of I ha rx
  have rb := rdB_of I hb ry
  unfold depOk at hk
  rw [Bool.and_eq_true] at hk
  obtain ⟨hk, hd⟩ := hk
  replace hd := of_decide_eq_true hd
  have fin : ∀ k : Bool, k = (!eqD a b) → EP X pins σ Q (.bool k) s := fun k e => ⟨.bl k, H, I, rfl, by rw [e]; exact q⟩
  cases a <;> cases b <;> first
    | (exact absurd (show false = true from hk) Bool.false_ne_true)
    | skip
  · unfold RdV at ra rb; subst ra; subst rb
    exact RcNeAt.bool_bool _ _ _ _ _ _ (fin _ (by unfold eqD; rfl))
  · unfold RdV at ra rb; obtain ⟨t, rfl⟩ := ra; obtain ⟨t', rfl⟩ := rb
    exact RcNeAt.int_int _ _ _ _ _ _ _ _ (fin _ (by unfold eqD; rfl))
  · unfold RdV at ra rb; obtain ⟨t, rfl⟩ := ra; obtain ⟨t', rfl⟩ := rb
    exact RcNeAt.str_str _ _ _ _ _ _ _ _ (fin _ (by unfold eqD; rfl))
  · rename_i ds es
    unfold RdV at ra rb; obtain ⟨l, its, rfl, h1, h2⟩ := ra; obtain ⟨l', its', rfl, k1, k2⟩ := rb
    have n1 : its.size = ds.length := by simpa using h2.length
    have n2 : its'.size = es.length := by simpa using k2.length
    have he : ∀ j (j1 : j < its.size) (j2 : j < its'.size), EqAt X.A.in1 s its[j] its'[j] (pairD ds es j) := fun j j1 j2 => by
      have q := eqAt_DL ds es X.A.in1 s its.toList its'.toList h2 k2 (by show X.A.units + 1 + _ < _; unfold dep at hd; omega) j (by simpa using j1) (by simpa using j2)
      simpa using q
    by_cases hsz : its.size = its'.size
    · refine RcNeAt.lists h1 k1 hsz (by omega) he _ _ _ _ (fin _ ?_)
      unfold eqD
      rw [n1, eqDs_len (by omega)]
    · refine RcNeAt.lists_lengths h1 k1 (by simpa using hsz) (by omega) _ _ _ _ (fin _ ?_)
      unfold eqD
      rw [eqDs_ne (by omega)]
      rfl
  · rename_i ds es
    unfold RdV at ra rb; obtain ⟨l, its, rfl, h1, h2⟩ := ra; obtain ⟨l', its', rfl, k1, k2⟩ := rb
    have n1 : its.size = ds.length := by simpa using h2.length
    have n2 : its'.size = es.length := by simpa using k2.length
    have he : ∀ j (j1 : j < its.size) (j2 : j < its'.size), EqAt X.A.in1 s its[j] its'[j] (pairD ds es j) := fun j j1 j2 => by
      have q := eqAt_DL ds es X.A.in1 s its.toList its'.toList h2 k2 (by show X.A.units + 1 + _ < _; unfold dep at hd; omega) j (by simpa using j1) (by simpa using j2)
      simpa using q
    refine RcNeAt.tuples h1 k1 (by omega) he _ _ _ _ (fin _ ?_)
    unfold eqD
    rw [n1, n2, eqDs_both ds es]
open Classical in
noncomputable def isEq (h : Heap) (a : D) (u : Value) : Bool := if ∃ d, RdV h d u ∧ eqD d a = true then true else false
theorem isEq_of {h : Heap} {a d : D} {u : Value} (r : RdV h d u) : isEq h a u = eqD d a := by
  unfold isEq
  cases e : eqD d a with
  | true => rw [if_pos ⟨d, r, e⟩]
  | false =>
    rw [if_neg]
    rintro ⟨d', r', e'⟩
    rw [RdV.inj d d' u r r', e'] at e
    cases e
theorem any_isEq {h : Heap} {a : D} : ∀ {ds : List D} {us : List Value}, RdL h ds us → us.any (isEq h a) = ds.any fun d => eqD d a
  | [], us, r => by unfold RdL at r; subst r; rfl
  | d :: ds, us, r => by
    unfold RdL at r; obtain ⟨w, ws, rfl, h1, h2⟩ := r
    rw [List.any_cons, List.any_cons, isEq_of h1, any_isEq h2]
theorem mem_isEq {A : Around} {s : Shared} {a : D} {v : Value} (rv : RdV s.heap a v) (hu : A.units + dep a < cLine) : ∀ {ds : List D} {us : List Value}, RdL s.heap ds us → ∀ u ∈ us, EqAt A s u v (isEq s.heap a u)
  | [], us, r => fun u hm => by unfold RdL at r; subst r; cases hm
  | d :: ds, us, r => fun u hm => by
    unfold RdL at r; obtain ⟨w, ws, rfl, h1, h2⟩ := r
    rcases List.mem_cons.mp hm with rfl | hm
    · rw [isEq_of h1]
      exact eqAt_D d a A s u v h1 rv (by omega)
    · exact mem_isEq rv hu h2 u hm
theorem op_inD (hu : X.A.units + 200 < cLine) : OpR X (compareOp .In) (fun x y H Q => ∃ F a ds, RelB X.K H F a x ∧ (RelB X.K H F (.lst ds) y ∨ RelB X.K H F (.tup ds) y) ∧ dep a ≤ 150 ∧ Q (.bl (ds.any fun d => eqD d a)) H) := by
  intro pins s σ H x y v u Q I rx ry h
  obtain ⟨F, a, ds, ha, hb, hd, q⟩ := h
  have ra := rdB_of I ha rx
  have fin : ∀ k : Bool, k = (ds.any fun d => eqD d a) → EP X pins σ Q (.bool k) s := fun k e => ⟨.bl k, H, I, rfl, by rw [e]; exact q⟩
  rcases hb with hb | hb
  · have rb := rdB_of I hb ry
    unfold RdV at rb; obtain ⟨l', its', rfl, k1, k2⟩ := rb
    refine in_listAt (isEq s.heap a) k1 (fun w hw => mem_isEq ra (by show X.A.units + 1 + _ < _; omega) k2 w (by simpa using hw)) (fin _ ?_)
    rw [show its'.any (isEq s.heap a) = its'.toList.any (isEq s.heap a) by simp, any_isEq k2]
  · have rb := rdB_of I hb ry
    unfold RdV at rb; obtain ⟨l', its', rfl, k1, k2⟩ := rb
    refine in_tupleAt (isEq s.heap a) k1 (fun w hw => mem_isEq ra (by show X.A.units + 1 + _ < _; omega) k2 w (by simpa using hw)) (fin _ ?_)
    rw [show its'.any (isEq s.heap a) = its'.toList.any (isEq s.heap a) by simp, any_isEq k2]
theorem op_notInD (hu : X.A.units + 200 < cLine) : OpR X (compareOp .NotIn) (fun x y H Q => ∃ F a ds, RelB X.K H F a x ∧ (RelB X.K H F (.lst ds) y ∨ RelB X.K H F (.tup ds) y) ∧ dep a ≤ 150 ∧ Q (.bl (!ds.any fun d => eqD d a)) H) := by
  intro pins s σ H x y v u Q I rx ry h
  obtain ⟨F, a, ds, ha, hb, hd, q⟩ := h
  have ra := rdB_of I ha rx
  have fin : ∀ k : Bool, k = (!ds.any fun d => eqD d a) → EP X pins σ Q (.bool k) s := fun k e => ⟨.bl k, H, I, rfl, by rw [e]; exact q⟩
  rcases hb with hb | hb
  · have rb := rdB_of I hb ry
    unfold RdV at rb; obtain ⟨l', its', rfl, k1, k2⟩ := rb
    refine notIn_listAt (isEq s.heap a) k1 (fun w hw => mem_isEq ra (by show X.A.units + 1 + _ < _; omega) k2 w (by simpa using hw)) (fin _ ?_)
    rw [show its'.any (isEq s.heap a) = its'.toList.any (isEq s.heap a) by simp, any_isEq k2]
  · have rb := rdB_of I hb ry
    unfold RdV at rb; obtain ⟨l', its', rfl, k1, k2⟩ := rb
    refine notIn_tupleAt (isEq s.heap a) k1 (fun w hw => mem_isEq ra (by show X.A.units + 1 + _ < _; omega) k2 w (by simpa using hw)) (fin _ ?_)
    rw [show its'.any (isEq s.heap a) = its'.toList.any (isEq s.heap a) by simp, any_isEq k2]
theorem vals_int {ns : List Int} : ∀ {xs : List V} {us : List Value}, xs = ns.map V.int → Vals xs us → ∀ i v, us[i]? = some v → ∃ t, v = Value.int (ns.getD i 0) t := by
  induction ns with
  | nil => intro xs us e r i v h; subst e; cases r; simp at h
  | cons n ns ih =>
    intro xs us e r i v h
    subst e
    cases r with
    | cons r1 r2 =>
      cases i with
      | zero => simp at h; subst h; obtain ⟨t, e⟩ := r1; exact ⟨t, by simpa using e⟩
      | succ i =>
        obtain ⟨t, e⟩ := ih rfl r2 i v (by simpa using h)
        exact ⟨t, by simpa using e⟩
theorem topI_snoc {ns : List Int} {v : Int} (h : ns ≠ []) : topI (ns ++ [v]) = if v > topI ns then v else topI ns := by
  cases ns with
  | nil => exact absurd rfl h
  | cons n ns =>
    show (ns ++ [v]).foldl _ n = _
    rw [List.foldl_append]
    rfl
theorem best_top (ns : List Int) : ∀ k, k < ns.length → ns.getD (argBest (fun i j => decide (ns.getD i 0 > ns.getD j 0)) k) 0 = topI (ns.take (k + 1))
  | 0, h => by
    cases ns with
    | nil => cases h
    | cons n ns => simp [argBest, topI]
  | k + 1, h => by
    have ih := best_top ns k (by omega)
    have e : ns[k + 1]? = some (ns.getD (k + 1) 0) := by rw [List.getD_eq_getElem?_getD, List.getElem?_eq_getElem h]; rfl
    have e2 : ns.take (k + 1 + 1) = ns.take (k + 1) ++ [ns.getD (k + 1) 0] := by rw [List.take_add_one, e]; rfl
    rw [e2, topI_snoc (by cases ns with
      | nil => cases h
      | cons _ _ => simp), ← ih]
    show ns.getD (if decide (ns.getD (k + 1) 0 > ns.getD (argBest (fun i j => decide (ns.getD i 0 > ns.getD j 0)) k) 0) = true then k + 1 else argBest (fun i j => decide (ns.getD i 0 > ns.getD j 0)) k) 0 = _
    by_cases hb : ns.getD (k + 1) 0 > ns.getD (argBest (fun i j => decide (ns.getD i 0 > ns.getD j 0)) k) 0
    · rw [if_pos (decide_eq_true hb), if_pos hb]
    · rw [if_neg (by simpa using hb), if_neg hb]
theorem call_maxL (hc : X.calm = true) : CallR X (.builtin "max") (fun xs H Q => ∃ (p : Addr) (ns : List Int), xs = [.ref p] ∧ ns ≠ [] ∧ SqL X.K H p (ns.map V.int) ∧ Q (.int (topI ns)) H) := by
  intro pins s σ H xs us Q I r h
  obtain ⟨p, ns, rfl, hne, hq, q⟩ := h
  obtain ⟨u, rfl, rx⟩ := vals1 r
  cases rx
  obtain ⟨its, rv, pl, hz⟩ := I.list hq
  have hlt : p < s.heap.objs.size := by obtain ⟨o, e, _⟩ := pl.isList; exact Heap.lt_size e
  have hlen : its.toArray.size = ns.length := by rw [List.size_toArray, ← rv.length, List.length_map]
  have hpos : 0 < ns.length := List.length_pos_iff.mpr hne
  have hval : ∀ i v, its.toArray[i]? = some v → ∃ t, v = Value.int (ns.getD i 0) t := fun i v e => vals_int rfl rv i v (by simpa using e)
  refine call_max_walk (wpAny_pyIter_list pl.isList ?_)
  refine ⟨s.heap.objs.size, [s.heap.objs.size, p], [s.heap.objs.size], its.toArray.size, _, _, fun i j => decide (ns.getD i 0 > ns.getD j 0), rfl, Walks.list (A := X.A.in1) (I.ok.hd hc) s.heap.objs.size p (Nat.ne_of_lt hlt) its.toArray,
    ⟨⟨_, Heap.get?_push_size _ rfl, rfl, rfl⟩, ?_⟩, fun b hb => ?_, by rw [hlen]; exact hpos, CmpOf.ints_gt (fun i => ns.getD i 0) hval, fun v h' tk hv hk => ?_⟩
  · obtain ⟨o, e, r⟩ := pl.isList
    exact ⟨o, Heap.get?_push_of_some _ e, r⟩
  · have : b = s.heap.objs.size ∨ b = p := by simpa using hb
    show b < (s.heap.push _).objs.size
    rw [Heap.size_push]
    rcases this with rfl | rfl
    · exact Nat.lt_succ_self _
    · exact Nat.lt_succ_of_lt hlt
  · refine ⟨.int (topI ns), H, I.kept (h' := h') (t' := tk) fun b o e => ?_, ?_, q⟩
    · exact hk b o (by simp; exact Nat.ne_of_lt (Heap.lt_size e)) (Heap.get?_push_of_some _ e)
    · obtain ⟨t, rfl⟩ := hval _ _ hv
      refine ⟨t, ?_⟩
      rw [best_top ns _ (by omega), hlen, show ns.length - 1 + 1 = ns.length by omega, List.take_length]
noncomputable def tyName : Blt → Option String
  | .isTup => some "tuple" | .isStr => some "str"
  | _ => none
theorem call_isD {f : Blt} {T : String} (hT : tyName f = some T) : CallR X (.builtin "isinstance") (fun xs H Q => ∃ F d x b, RelB X.K H F d x ∧ xs = [x, .ty T] ∧ bltD f [d] = some (.bl b) ∧ Q (.bl b) H) := by
  intro pins s σ H xs us Q I r h
  obtain ⟨F, d, x, b, hr, rfl, hb, q⟩ := h
  obtain ⟨u, w', rfl, ru, rw'⟩ := vals2 r
  cases (show w' = Value.type T from rw')
  have rd := rdB_of I hr ru
  have fin : ∀ tk, EP X pins σ Q (.bool b) { s with toks := tk } := fun tk => ⟨.bl b, H, I.tok tk, rfl, q⟩
  cases d with
  | non => unfold RdV at rd; subst rd; cases f <;> simp [tyName] at hT <;> subst hT <;> simp [bltD, isTupD, isStrD] at hb <;> subst hb <;> exact PySem.W.kia_one PySem.W.kitx_none I.kIn True.intro rfl (fun z => nomatch z) fin
  | bl y => unfold RdV at rd; subst rd; cases f <;> simp [tyName] at hT <;> subst hT <;> simp [bltD, isTupD, isStrD] at hb <;> subst hb <;> exact PySem.W.kia_one PySem.W.kitx_bool I.kIn True.intro rfl (fun z => nomatch z) fin
  | int y => unfold RdV at rd; obtain ⟨t, rfl⟩ := rd; cases f <;> simp [tyName] at hT <;> subst hT <;> simp [bltD, isTupD, isStrD] at hb <;> subst hb <;> exact PySem.W.kia_one PySem.W.kitx_int I.kIn True.intro rfl (fun z => nomatch z) fin
  | str y => unfold RdV at rd; obtain ⟨t, rfl⟩ := rd; cases f <;> simp [tyName] at hT <;> subst hT <;> simp [bltD, isTupD, isStrD] at hb <;> subst hb <;> exact PySem.W.kia_one PySem.W.kitx_str I.kIn True.intro rfl (fun z => nomatch z) fin
  | lst y =>
    unfold RdV at rd; obtain ⟨l, its, rfl, ⟨o, h1, h2, _⟩, _⟩ := rd
    cases f <;> simp [tyName] at hT <;> subst hT <;> simp [bltD, isTupD, isStrD] at hb <;> subst hb <;> exact PySem.W.kia_one PySem.W.kitx_list I.kIn ⟨o, h1, h2⟩ rfl (fun z => nomatch z) fin
  | tup y =>
    unfold RdV at rd; obtain ⟨l, its, rfl, ⟨o, h1, h2, _⟩, _⟩ := rd
    cases f <;> simp [tyName] at hT <;> subst hT <;> simp [bltD, isTupD, isStrD] at hb <;> subst hb <;> exact PySem.W.kia_one PySem.W.kitx_tuple I.kIn ⟨o, h1, h2⟩ rfl (fun z => nomatch z) fin
  | fn _ _ => unfold RdV at rd; exact rd.elim
noncomputable def Its (x : Str) : L2.It := ⟨fun i _ => i < x.cps.size, fun i H v H' => H' = H ∧ ∃ c, x.cps[i]? = some c ∧ v = .str ⟨#[c]⟩, fun i _ => i = x.cps.size⟩
theorem turn_walks {P : Program} {w : World} {K : PySem.W.Frag} {tg : Expr} {it : Addr} {n : Nat} {PV : Nat → Value → Prop} {St : Nat → Heap → Prop} {J : L2.It} {ty : String}
    (W : ∀ A : Around, A.handled = none → Walks P w A it [it] [it] n PV St) (hst : ∀ i h, St i h → ∃ (o : Obj) (vs : Array Value), h.get? it = some o ∧ o.cls = .type ty ∧ o.data = .fields vs)
    (hn : ["enumerate", "zip", "dict_itemiterator", "dict_reverseitemiterator", "odict_iterator", "itertools.zip_longest", "itertools.pairwise"].contains ty = false)
    (go : ∀ i H, J.go i H → i < n) (stop : ∀ i H, J.stop i H → i = n) (yld : ∀ i v H, PV i v → ∃ x, RelV x v ∧ J.yld i H x H)
    (self : ∀ (A : Around) (i : Nat) (s : Shared) (Q : Value → Shared → Prop) (E : Value → Shared → Prop), St i s.heap → Q (.ref it) s → wpAny (model P w) A (pyIter (.ref it)) Q E s) :
    Turn P w K tg J [it] it St where
  mem := by simp
  obj := fun i h st b hb => by
    have e : b = it := by simpa using hb
    subst e
    obtain ⟨o, vs, e, c, d⟩ := hst i h st
    exact ⟨o, e, fun v z => by rw [d] at z; cases z⟩
  keep := fun i h h' st k => (W { } rfl).frame i h h' st k
  item := by
    intro X hP hw hK hc i pins s σ H E I hf st hg
    subst hP hw hK
    obtain ⟨f0, f1, f2, f3, f4, f5⟩ := hf it (by simp)
    refine (W X.A (I.ok.hd hc)).item i s _ _ (go i H hg) st fun v h' tk hv st' kk => ?_
    have I1 : Inv X pins σ H { s with heap := h', toks := tk } := I.turned (fun b o hb e => kk b o (by simpa using hb) e) f0 f1 f3 f4 f5
    obtain ⟨o, vs, e, c, d⟩ := hst _ _ st'
    obtain ⟨x, r, y⟩ := yld i v H hv
    exact ⟨v, rfl, go_of (s := { s with heap := h', toks := tk }) e c d hn ⟨x, H, I1, r, y, st', fun b hb => (hf b hb).1⟩⟩
  done := by
    intro X hP hw hK hc i pins s σ H E I hf st hg
    subst hP hw hK
    obtain ⟨f0, f1, f2, f3, f4, f5⟩ := hf it (by simp)
    have e := stop i H hg
    subst e
    exact (W X.A (I.ok.hd hc)).done s _ _ st fun h' tk kk => ⟨rfl, I.turned (fun b o hb e => kk b o (by simpa using hb) e) f0 f1 f3 f4 f5⟩
  self := self
theorem turn_str {P : Program} {w : World} {K : PySem.W.Frag} {tg : Expr} (it : Addr) (x : Str) (t : Tok) : Turn P w K tg (Its x) [it] it (fun i h => h.IsStrIter it (strIterType x) x t i) := by
  unfold strIterType
  split
  · exact turn_walks (ty := "str_ascii_iterator") (fun A hA => Walks.strAscii hA it x t) (fun i h ⟨o, e, c, d⟩ => ⟨o, _, e, c, d⟩) (by decide) (fun i H z => z) (fun i H z => z) (fun i v H ⟨c, u, h1, h2⟩ => ⟨.str ⟨#[c]⟩, ⟨u, h2⟩, rfl, c, h1, rfl⟩) fun _ _ _ _ _ st h => wpAny_pyIter_striter_ascii st h
  · exact turn_walks (ty := "str_iterator") (fun A hA => Walks.strWide hA it x t) (fun i h ⟨o, e, c, d⟩ => ⟨o, _, e, c, d⟩) (by decide) (fun i H z => z) (fun i H z => z) (fun i v H ⟨c, u, h1, h2⟩ => ⟨.str ⟨#[c]⟩, ⟨u, h2⟩, rfl, c, h1, rfl⟩) fun _ _ _ _ _ st h => wpAny_pyIter_striter_wide st h
end
end PP
end
section
namespace PP
open PySem L2 PyProof.Rows PySem.SeqAt PySem.Calls
section
variable {prog : Program} {w : World} {A : Around} {R : Result → Shared → Prop} {I : Addr} {fp wr : List Addr} {n : Nat} {P : Nat → Value → Prop} {St : Nat → Heap → Prop}
end
variable {X : Cx} [Tbs]
end PP
end
section
namespace PP
open PySem L2 PySem.SeqAt PyProof.Rows PySem.W
open AutoSeq1 (wpAny_loadPart')
open MeetsSeq MeetsSeq2 MeetsSeq3 SeqRoads2
variable [Tbs]
noncomputable def LtAt (A : Around) (s : Shared) (u v : Value) (b : Bool) : Prop := ∀ (prog : Program) (w : World) (E : Value → Shared → Prop) (Q : Value → Shared → Prop), Q (.bool b) s → wpAny (model prog w) A (richCompare .Lt u v) Q E s
noncomputable def LexAt (A : Around) (s : Shared) (last : Bool) : List (Value × Value) → Bool → Prop
  | [], b => b = last
  | (p, q) :: r, b => ∃ e, EqAt A s p q e ∧ if e = true then LexAt A s last r b else LtAt A s p q b
theorem tuple_ltAt (l m : Addr) (xs ys : Array Value) (n n2 : Nat) (dd dd2 : Option Addr) (sl sl2 : Array (Option Value)) (b : Bool) :
    Meets (Builtin.«tuple.__lt__» ⟨[.ref l, .ref m], []⟩)
      (fun A R s => s.heap.get? l = some ⟨.type "tuple", dd, .seq xs n, sl⟩ ∧ s.heap.get? m = some ⟨.type "tuple", dd2, .seq ys n2, sl2⟩ ∧
        LexAt A.in1 s (decide (xs.size < ys.size)) (xs.toList.zip ys.toList) b ∧ R (.ok (.ret (.bool b))) s) :=
  .of_wp fun prog w A R s h => by
    obtain ⟨h0, g0, d0, t0, o0⟩ := s
    obtain ⟨hx, hy, hlex, hR⟩ := h
    have sub := AutoSeq1.sub_tuple_tuple
    wp_walk using wpAny_loadPart' hx, wpAny_loadPart' hy, wpAny_forIn_list _ (fun rest st s' => st.1 = none ∧ s' = ⟨h0, g0, d0, t0, o0⟩ ∧ LexAt A.in1 ⟨h0, g0, d0, t0, o0⟩ (decide (xs.size < ys.size)) rest b) _
    case turn =>
      rintro ⟨y, x⟩ rest st s' ⟨hst, rfl, e, he, hr⟩
      refine wpAny_bind (he prog w _ _ ?_)
      cases e with
      | true =>
        rw [if_pos rfl] at hr
        wp_walk
        exact ⟨rfl, rfl, hr⟩
      | false =>
        rw [if_neg Bool.false_ne_true] at hr
        have hr' : ∀ {Q : Value → Shared → Prop} {E : Value → Shared → Prop}, Q (.bool b) ⟨h0, g0, d0, t0, o0⟩ → wpAny (model prog w) A.in1 (richCompare .Lt y x) Q E ⟨h0, g0, d0, t0, o0⟩ := fun {Q E} h => hr prog w E Q h
        wp_walk using hr'
        exact ⟨_, rfl, hR⟩
    case fin =>
      rintro ⟨b1, b2⟩ s' ⟨hst, rfl, hl⟩
      simp only at hst
      subst hst
      have hl : b = decide (xs.size < ys.size) := hl
      wp_walk
      refine ⟨_, rfl, ?_⟩
      have : Builtin.Tuple.tupleCompareSizes .Lt xs.size ys.size = .bool b := by rw [hl]; rfl
      rw [this]
      exact hR
    case h => exact ⟨rfl, rfl, hlex⟩
theorem LtAt.tuples {A : Around} {s : Shared} {l m : Addr} {xs ys : Array Value} {b : Bool} (hx : s.heap.IsTuple l xs) (hy : s.heap.IsTuple m ys) (hu : A.units < cLine) (h : LexAt A.in1 s (decide (xs.size < ys.size)) (xs.toList.zip ys.toList) b) : LtAt A s (.ref l) (.ref m) b := by
  intro prog w E Q q
  obtain ⟨⟨c1, d1, t1, s1⟩, e1, k1, n1, f1⟩ := hx
  obtain ⟨⟨c2, d2, t2, s2⟩, e2, k2, n2, f2⟩ := hy
  have k1 : c1 = _ := k1
  have f1 : t1 = _ := f1
  have k2 : c2 = _ := k2
  have f2 : t2 = _ := f2
  subst k1 f1 k2 f2
  have nn : Value.bool b ≠ Value.notImplemented := fun z => nomatch z
  exact richCompare_meets_room (op := .Lt) ⟨_, e1, rfl⟩ ⟨_, e2, rfl⟩ F.slot_tuple_lt F.entry_tuple_lt (F.args_tuple_lt_2 _ _) (tuple_ltAt l m xs ys n1 n2 d1 d2 s1 s2 b) ⟨e1, e2, h, (show Value.bool b ≠ Value.notImplemented ∧ Q (.bool b) s from ⟨nn, q⟩)⟩ hu
mutual
theorem ltAt_D : ∀ (a b : D) (A : Around) (s : Shared) (u v : Value) (k : Bool), RdV s.heap a u → RdV s.heap b v → A.units + min (dep a) (dep b) + 1 < cLine → ltD a b = some k → LtAt A s u v k
  | .int a, b, A, s, u, v, k, ra, rb, hu, h => by
    cases b with
    | int b =>
      unfold ltD at h
      cases h
      unfold RdV at ra rb
      obtain ⟨t, rfl⟩ := ra
      obtain ⟨t', rfl⟩ := rb
      intro prog w E Q q
      exact lt_int q
    | _ => unfold ltD at h; cases h
  | .str a, b, A, s, u, v, k, ra, rb, hu, h => by
    cases b with
    | str b =>
      unfold ltD at h
      cases h
      unfold RdV at ra rb
      obtain ⟨t, rfl⟩ := ra
      obtain ⟨t', rfl⟩ := rb
      intro prog w E Q q
      exact lt_str q
    | _ => unfold ltD at h; cases h
  | .tup a, b, A, s, u, v, k, ra, rb, hu, h => by
    cases b with
    | tup b =>
      unfold ltD at h
      unfold RdV at ra rb
      obtain ⟨l, xs, rfl, h1, h2⟩ := ra
      obtain ⟨m, ys, rfl, k1, k2⟩ := rb
      have n1 : xs.size = a.length := by simpa using h2.length
      have n2 : ys.size = b.length := by simpa using k2.length
      refine LtAt.tuples h1 k1 (by omega) ?_
      rw [n1, n2]
      unfold dep at hu
      exact lexAt_DL a b A.in1 s xs.toList ys.toList k h2 k2 (by show A.units + 1 + _ + 1 < _; omega) h
    | _ => unfold ltD at h; cases h
  | .non, b, A, s, u, v, k, ra, rb, hu, h => by cases b <;> (unfold ltD at h; cases h)
  | .bl x, b, A, s, u, v, k, ra, rb, hu, h => by cases b <;> (unfold ltD at h; cases h)
  | .lst x, b, A, s, u, v, k, ra, rb, hu, h => by cases b <;> (unfold ltD at h; cases h)
  | .fn x y, b, A, s, u, v, k, ra, rb, hu, h => by cases b <;> (unfold ltD at h; cases h)
theorem lexAt_DL : ∀ (as bs : List D) (A : Around) (s : Shared) (us vs : List Value) (k : Bool), RdL s.heap as us → RdL s.heap bs vs → A.units + min (depL as) (depL bs) + 1 < cLine → ltDs as bs = some k → LexAt A s (decide (as.length < bs.length)) (us.zip vs) k
  | [], [], A, s, us, vs, k, ra, rb, hu, h => by
    unfold RdL at ra rb
    subst ra; subst rb
    unfold ltDs at h
    cases h
    rfl
  | [], y :: ys, A, s, us, vs, k, ra, rb, hu, h => by
    unfold RdL at ra
    subst ra
    unfold ltDs at h
    cases h
    show true = decide _
    simp
  | x :: xs, [], A, s, us, vs, k, ra, rb, hu, h => by
    unfold RdL at rb
    subst rb
    unfold ltDs at h
    cases h
    rw [List.zip_nil_right]
    show false = decide _
    simp
  | x :: xs, y :: ys, A, s, us, vs, k, ra, rb, hu, h => by
    unfold RdL at ra rb
    obtain ⟨u, us', rfl, ra1, ra2⟩ := ra
    obtain ⟨v, vs', rfl, rb1, rb2⟩ := rb
    unfold ltDs at h
    unfold depL at hu
    refine ⟨eqD x y, eqAt_D x y A s u v ra1 rb1 (by omega), ?_⟩
    cases e : eqD x y with
    | true =>
      rw [e, if_pos rfl] at h
      rw [if_pos rfl]
      have := lexAt_DL xs ys A s us' vs' k ra2 rb2 (by omega) h
      have e1 : decide ((x :: xs).length < (y :: ys).length) = decide (xs.length < ys.length) := by simp
      rw [e1]
      exact this
    | false =>
      rw [e, if_neg Bool.false_ne_true] at h
      rw [if_neg Bool.false_ne_true]
      exact ltAt_D x y A s u v k ra1 rb1 (by omega) h
end
theorem op_catR {X : Cx} : OpR X (binaryOp .Add) (fun x y H Q => ∃ l b xs zs, x = .ref l ∧ y = .ref b ∧ LsB X.K H l xs ∧ LsB X.K H b zs ∧ xs.length + zs.length ≤ sizeLine ∧ ∀ p, H p = none → Q (.ref p) (upd H p (.lst (xs ++ zs)))) := by
  intro pins s σ H x y v u Q I rx ry h
  obtain ⟨l, b, xs, zs, rfl, rfl, h1, h2, hz, q⟩ := h
  cases rx
  cases ry
  obtain ⟨i1, n1, r1, e1, z1⟩ := h1.obj I
  obtain ⟨i2, n2, r2, e2, z2⟩ := h2.obj I
  have l1 := r1.length
  have l2 := r2.length
  refine PySem.P.add_list e1 e2 ?_ (by simp only [List.size_toArray]; omega)
  rw [show i1.toArray ++ i2.toArray = (i1 ++ i2).toArray by simp]
  exact ⟨.ref _, _, I.lnew (t' := s.toks) (r1.append r2) (by rw [List.length_append]; omega), rfl, q _ I.fresh⟩
end PP
end
section
namespace PP
open PySem PySem.W PyProof.Rows
noncomputable def All (p : Array Nat) (n : Nat) : Prop := 0 < n ∧ ∀ x ∈ p, x < n
theorem All.at {p : Array Nat} {n : Nat} (h : All p n) (k : Nat) : p.getD k 0 < n := by
  rw [getD_eq]
  cases e : p[k]? with
  | none => exact h.1
  | some x => exact h.2 x (Array.mem_of_getElem? e)
section
variable {lt : Nat → Nat → Bool} {n : Nat}
end
section
variable {prog : Program} {w : World} {A : Around} {E : Value → Shared → Prop} {s : Shared}
end
end PP
end
section
namespace PP
open PySem L2 PySem.SeqAt PyProof.Rows PySem.W
variable [Tbs]
section
variable {lt : Nat → Nat → Bool}
end
mutual
theorem RdV.keep {h h' : Heap} (k : ∀ b o, h.get? b = some o → h'.get? b = some o) : ∀ (d : D) (u : Value), RdV h d u → RdV h' d u
  | .non, u, r => by unfold RdV at r ⊢; exact r
  | .bl _, u, r => by unfold RdV at r ⊢; exact r
  | .int _, u, r => by unfold RdV at r ⊢; exact r
  | .str _, u, r => by unfold RdV at r ⊢; exact r
  | .lst ds, u, r => by
    unfold RdV at r ⊢
    obtain ⟨a, its, e, ⟨o, h1, h2⟩, h3⟩ := r
    exact ⟨a, its, e, ⟨o, k _ _ h1, h2⟩, RdL.keep k ds _ h3⟩
  | .tup ds, u, r => by
    unfold RdV at r ⊢
    obtain ⟨a, its, e, ⟨o, h1, h2⟩, h3⟩ := r
    exact ⟨a, its, e, ⟨o, k _ _ h1, h2⟩, RdL.keep k ds _ h3⟩
  | .fn _ _, u, r => by unfold RdV at r; exact r.elim
theorem RdL.keep {h h' : Heap} (k : ∀ b o, h.get? b = some o → h'.get? b = some o) : ∀ (ds : List D) (us : List Value), RdL h ds us → RdL h' ds us
  | [], us, r => by unfold RdL at r ⊢; exact r
  | d :: ds, us, r => by
    unfold RdL at r ⊢
    obtain ⟨w, ws, e, r1, r2⟩ := r
    exact ⟨w, ws, e, RdV.keep k d w r1, RdL.keep k ds ws r2⟩
end
section
variable {prog : Program} {w : World} {s : Shared}
end
end PP
end
section
namespace PP
open PySem
structure Ck where
  N : List Str
  sc : Scope
  fns : List (Str × List Str)
  gn : List Str
noncomputable def visB (sc : Scope) (x : Str) : Bool := match sc.names.lookup x with
  | some .local => true | some .cell => true | some .free => true | _ => false
noncomputable def locB (sc : Scope) (x : Str) : Bool := match sc.names.lookup x with
  | some .local => true | some .cell => true | _ => false
noncomputable def glB (sc : Scope) (x : Str) : Bool := match sc.names.lookup x with
  | some .globalImplicit => true | _ => false
noncomputable def nmOk (x : Str) : Bool := !(x == ("__debug__" : Str)) && !(x == ("__classdict__" : Str)) && !(x == ("__name__" : Str))
noncomputable def nameIs (c : Ck) (i : Nat) (x : Str) : Bool := decide (c.N[i]? = some x) && visB c.sc x && nmOk x
noncomputable def nameTo (c : Ck) (i : Nat) (x : Str) : Bool := decide (c.N[i]? = some x) && locB c.sc x && nmOk x
noncomputable def globIs (c : Ck) (x : Str) : Bool := glB c.sc x && nmOk x
noncomputable def opIs : Op → Operator → Bool
  | .add, .Add => true | .sub, .Sub => true | .mul, .Mult => true | .mod, .Mod => true | .fdiv, .FloorDiv => true
  | _, _ => false
noncomputable def copIs : Cop → CmpOp → Bool
  | .lt, .Lt => true | .gt, .Gt => true | .eq, .Eq => true | .ne, .NotEq => true | .isin, .In => true | .notin, .NotIn => true | .is, .Is => true | .isnot, .IsNot => true
  | _, _ => false
noncomputable def bltNm : Blt → Str
  | .len => "len" | .max => "max" | .toInt => "int" | .toStr => "str" | .toTup => "tuple" | .toLst => "list"
  | .isTup => "isinstance" | .isStr => "isinstance"
noncomputable def bltNames : List Str := ["len", "min", "max", "int", "str", "tuple", "list", "sum", "isinstance", "bool", "range", "sorted", "set", "zip"]
noncomputable def noPk : Es → Bool
  | .nil => true
  | .cons e es => !isPk e && noPk es
noncomputable def okEs : Es → Bool
  | .nil => true
  | .cons e es => (!isPk e || npS es) && okEs es
noncomputable def esLen : Es → Nat
  | .nil => 0
  | .cons _ es => esLen es + 1
noncomputable def st (x : Expr) : Str := match x with
  | .Name y _ => y
  | .Attribute _ m _ => m
  | _ => ""
noncomputable def cst (x : Expr) : Const := match x with
  | .Constant v _ _ => v
  | _ => .none
noncomputable def e1 (x : Expr) : Expr := match x with
  | .BinOp y _ _ _ => y
  | .Compare y _ _ _ => y
  | .UnaryOp _ y _ => y
  | .IfExp t _ _ _ => t
  | .Subscript y _ _ => y
  | .Call f _ _ _ => f
  | .Attribute y _ _ => y
  | .ListComp e _ _ _ => e
  | .SetComp e _ _ _ => e
  | _ => x
noncomputable def bop (x : Expr) : Operator := match x with
  | .BinOp _ o _ _ => o
  | _ => .Add
noncomputable def e2 (x : Expr) : Expr := match x with
  | .BinOp _ _ z _ => z
  | .IfExp _ y _ _ => y
  | .Subscript _ z _ => z
  | _ => x
noncomputable def cops (x : Expr) : List CmpOp := match x with
  | .Compare _ os _ _ => os
  | _ => []
noncomputable def ls (x : Expr) : List Expr := match x with
  | .Compare _ _ zs _ => zs
  | .BoolOp _ vs _ => vs
  | .Tuple es _ _ => es
  | .List es _ => es
  | .Call _ as _ _ => as
  | _ => []
noncomputable def boop (x : Expr) : PySem.BoolOp := match x with
  | .BoolOp o _ _ => o
  | _ => .And
noncomputable def po (x : Expr) : Pos := match x with
  | .Name _ p => p
  | .BoolOp _ _ p => p
  | .Call _ _ _ p => p
  | .Attribute _ _ p => p
  | .ListComp _ _ _ p => p
  | _ => ⟨0, 0, 0, 0⟩
noncomputable def uop (x : Expr) : PySem.UnaryOp := match x with
  | .UnaryOp o _ _ => o
  | _ => .Not
noncomputable def e3 (x : Expr) : Expr := match x with
  | .IfExp _ _ z _ => z
  | _ => x
noncomputable def o1 (x : Expr) : Option Expr := match x with
  | .Slice l _ _ _ => l
  | _ => none
noncomputable def o2 (x : Expr) : Option Expr := match x with
  | .Slice _ h _ _ => h
  | _ => none
noncomputable def o3 (x : Expr) : Option Expr := match x with
  | .Slice _ _ s _ => s
  | _ => none
noncomputable def kws (x : Expr) : List Keyword := match x with
  | .Call _ _ ks _ => ks
  | _ => []
noncomputable def gns (x : Expr) : List Comprehension := match x with
  | .ListComp _ gs _ _ => gs
  | .SetComp _ gs _ _ => gs
  | _ => []
noncomputable def scp (x : Expr) (d : Scope) : Scope := match x with
  | .ListComp _ _ sc _ => sc
  | .SetComp _ _ sc _ => sc
  | _ => d
noncomputable def jsV (x : Expr) : List Expr := match x with
  | .JoinedStr vs _ => vs
  | _ => []
noncomputable def fvC (x : Expr) : Int := match x with
  | .FormattedValue _ cv _ _ => cv
  | _ => 0
noncomputable def fvX (x : Expr) : Expr := match x with
  | .FormattedValue y _ _ _ => y
  | _ => x
noncomputable def fvS (x : Expr) : Option Expr := match x with
  | .FormattedValue _ _ sp _ => sp
  | _ => none
noncomputable def tagE : Expr → Nat
  | .Name .. => 0
  | .Constant .. => 1
  | .BinOp .. => 2
  | .Compare .. => 3
  | .BoolOp .. => 4
  | .UnaryOp .. => 5
  | .IfExp .. => 6
  | .Tuple .. => 7
  | .List .. => 8
  | .Subscript .. => 9
  | .Slice .. => 10
  | .Call .. => 11
  | .Attribute .. => 12
  | .ListComp .. => 13
  | .SetComp .. => 14
  | .JoinedStr .. => 15
  | .FormattedValue .. => 16
  | _ => 99
noncomputable def invE (x : Expr) : Nat → Prop
  | 0 => ∃ y p, x = .Name y p
  | 1 => ∃ v n p, x = .Constant v n p
  | 2 => ∃ y o z p, x = .BinOp y o z p
  | 3 => ∃ y os zs p, x = .Compare y os zs p
  | 4 => ∃ o vs p, x = .BoolOp o vs p
  | 5 => ∃ o y p, x = .UnaryOp o y p
  | 6 => ∃ t y z p, x = .IfExp t y z p
  | 7 => ∃ es n p, x = .Tuple es n p
  | 8 => ∃ es p, x = .List es p
  | 9 => ∃ y z p, x = .Subscript y z p
  | 10 => ∃ l u s p, x = .Slice l u s p
  | 11 => ∃ f as ks p, x = .Call f as ks p
  | 12 => ∃ y m p, x = .Attribute y m p
  | 13 => ∃ e gs sc p, x = .ListComp e gs sc p
  | 14 => ∃ e gs sc p, x = .SetComp e gs sc p
  | 15 => ∃ vs p, x = .JoinedStr vs p
  | 16 => ∃ y cv sp p, x = .FormattedValue y cv sp p
  | _ => True
theorem invE_all (x : Expr) : invE x (tagE x) := by
  cases x <;> first | trivial | exact ⟨_, _, rfl⟩ | exact ⟨_, _, _, rfl⟩ | exact ⟨_, _, _, _, rfl⟩ | exact ⟨_, _, _, _, _, rfl⟩
theorem invE_of {x : Expr} {n : Nat} {b : Bool} (h : ((tagE x == n) && b) = true) : invE x n ∧ b = true := by
  rw [Bool.and_eq_true] at h
  exact ⟨eq_of_beq h.1 ▸ invE_all x, h.2⟩
@[irreducible] noncomputable def onJS (x : Expr) (k : List Expr → Bool) : Bool := (tagE x == 15) && k (jsV x)
theorem onJS_of {x : Expr} {k : List Expr → Bool} (h : onJS x k = true) : ∃ vs p, x = .JoinedStr vs p ∧ k vs = true := by
  unfold onJS at h
  obtain ⟨⟨vs, p, rfl⟩, h⟩ := invE_of h
  exact ⟨vs, p, rfl, h⟩
@[irreducible] noncomputable def onFV (x : Expr) (k : Expr → Int → Option Expr → Bool) : Bool := (tagE x == 16) && k (fvX x) (fvC x) (fvS x)
theorem onFV_of {x : Expr} {k : Expr → Int → Option Expr → Bool} (h : onFV x k = true) : ∃ y cv sp p, x = .FormattedValue y cv sp p ∧ k y cv sp = true := by
  unfold onFV at h
  obtain ⟨⟨y, cv, sp, p, rfl⟩, h⟩ := invE_of h
  exact ⟨y, cv, sp, p, rfl, h⟩
@[irreducible] noncomputable def onName (x : Expr) (k : Str → Bool) : Bool := (tagE x == 0) && k (st x)
theorem onName_of {x : Expr} {k : Str → Bool} (h : onName x k = true) : ∃ y p, x = .Name y p ∧ k y = true := by
  unfold onName at h
  obtain ⟨⟨y, p, rfl⟩, h⟩ := invE_of h
  exact ⟨y, p, rfl, h⟩
@[irreducible] noncomputable def onC (x : Expr) (k : Const → Bool) : Bool := (tagE x == 1) && k (cst x)
theorem onC_of {x : Expr} {k : Const → Bool} (h : onC x k = true) : ∃ v n p, x = .Constant v n p ∧ k v = true := by
  unfold onC at h
  obtain ⟨⟨v, n, p, rfl⟩, h⟩ := invE_of h
  exact ⟨v, n, p, rfl, h⟩
@[irreducible] noncomputable def onBin (x : Expr) (k : Expr → Operator → Expr → Bool) : Bool := (tagE x == 2) && k (e1 x) (bop x) (e2 x)
theorem onBin_of {x : Expr} {k : Expr → Operator → Expr → Bool} (h : onBin x k = true) : ∃ y o z p, x = .BinOp y o z p ∧ k y o z = true := by
  unfold onBin at h
  obtain ⟨⟨y, o, z, p, rfl⟩, h⟩ := invE_of h
  exact ⟨y, o, z, p, rfl, h⟩
@[irreducible] noncomputable def onCmp (x : Expr) (k : Expr → List CmpOp → List Expr → Bool) : Bool := (tagE x == 3) && k (e1 x) (cops x) (ls x)
theorem onCmp_of {x : Expr} {k : Expr → List CmpOp → List Expr → Bool} (h : onCmp x k = true) : ∃ y os zs p, x = .Compare y os zs p ∧ k y os zs = true := by
  unfold onCmp at h
  obtain ⟨⟨y, os, zs, p, rfl⟩, h⟩ := invE_of h
  exact ⟨y, os, zs, p, rfl, h⟩
@[irreducible] noncomputable def onBo (x : Expr) (k : PySem.BoolOp → List Expr → Pos → Bool) : Bool := (tagE x == 4) && k (boop x) (ls x) (po x)
theorem onBo_of {x : Expr} {k : PySem.BoolOp → List Expr → Pos → Bool} (h : onBo x k = true) : ∃ o vs p, x = .BoolOp o vs p ∧ k o vs p = true := by
  unfold onBo at h
  obtain ⟨⟨o, vs, p, rfl⟩, h⟩ := invE_of h
  exact ⟨o, vs, p, rfl, h⟩
@[irreducible] noncomputable def onUn (x : Expr) (k : PySem.UnaryOp → Expr → Bool) : Bool := (tagE x == 5) && k (uop x) (e1 x)
theorem onUn_of {x : Expr} {k : PySem.UnaryOp → Expr → Bool} (h : onUn x k = true) : ∃ o y p, x = .UnaryOp o y p ∧ k o y = true := by
  unfold onUn at h
  obtain ⟨⟨o, y, p, rfl⟩, h⟩ := invE_of h
  exact ⟨o, y, p, rfl, h⟩
@[irreducible] noncomputable def onIf (x : Expr) (k : Expr → Expr → Expr → Bool) : Bool := (tagE x == 6) && k (e1 x) (e2 x) (e3 x)
theorem onIf_of {x : Expr} {k : Expr → Expr → Expr → Bool} (h : onIf x k = true) : ∃ t y z p, x = .IfExp t y z p ∧ k t y z = true := by
  unfold onIf at h
  obtain ⟨⟨t, y, z, p, rfl⟩, h⟩ := invE_of h
  exact ⟨t, y, z, p, rfl, h⟩
@[irreducible] noncomputable def onTup (x : Expr) (k : List Expr → Bool) : Bool := (tagE x == 7) && k (ls x)
theorem onTup_of {x : Expr} {k : List Expr → Bool} (h : onTup x k = true) : ∃ es n p, x = .Tuple es n p ∧ k es = true := by
  unfold onTup at h
  obtain ⟨⟨es, n, p, rfl⟩, h⟩ := invE_of h
  exact ⟨es, n, p, rfl, h⟩
@[irreducible] noncomputable def onLst (x : Expr) (k : List Expr → Bool) : Bool := (tagE x == 8) && k (ls x)
theorem onLst_of {x : Expr} {k : List Expr → Bool} (h : onLst x k = true) : ∃ es p, x = .List es p ∧ k es = true := by
  unfold onLst at h
  obtain ⟨⟨es, p, rfl⟩, h⟩ := invE_of h
  exact ⟨es, p, rfl, h⟩
@[irreducible] noncomputable def onSub (x : Expr) (k : Expr → Expr → Bool) : Bool := (tagE x == 9) && k (e1 x) (e2 x)
theorem onSub_of {x : Expr} {k : Expr → Expr → Bool} (h : onSub x k = true) : ∃ y z p, x = .Subscript y z p ∧ k y z = true := by
  unfold onSub at h
  obtain ⟨⟨y, z, p, rfl⟩, h⟩ := invE_of h
  exact ⟨y, z, p, rfl, h⟩
@[irreducible] noncomputable def onSl (x : Expr) (k : Option Expr → Option Expr → Option Expr → Bool) : Bool := (tagE x == 10) && k (o1 x) (o2 x) (o3 x)
theorem onSl_of {x : Expr} {k : Option Expr → Option Expr → Option Expr → Bool} (h : onSl x k = true) : ∃ l u s p, x = .Slice l u s p ∧ k l u s = true := by
  unfold onSl at h
  obtain ⟨⟨l, u, s, p, rfl⟩, h⟩ := invE_of h
  exact ⟨l, u, s, p, rfl, h⟩
@[irreducible] noncomputable def onCall (x : Expr) (k : Expr → List Expr → List Keyword → Pos → Bool) : Bool := (tagE x == 11) && k (e1 x) (ls x) (kws x) (po x)
theorem onCall_of {x : Expr} {k : Expr → List Expr → List Keyword → Pos → Bool} (h : onCall x k = true) : ∃ f as ks p, x = .Call f as ks p ∧ k f as ks p = true := by
  unfold onCall at h
  obtain ⟨⟨f, as, ks, p, rfl⟩, h⟩ := invE_of h
  exact ⟨f, as, ks, p, rfl, h⟩
@[irreducible] noncomputable def onAt (x : Expr) (k : Expr → Str → Pos → Bool) : Bool := (tagE x == 12) && k (e1 x) (st x) (po x)
theorem onAt_of {x : Expr} {k : Expr → Str → Pos → Bool} (h : onAt x k = true) : ∃ y m p, x = .Attribute y m p ∧ k y m p = true := by
  unfold onAt at h
  obtain ⟨⟨y, m, p, rfl⟩, h⟩ := invE_of h
  exact ⟨y, m, p, rfl, h⟩
@[irreducible] noncomputable def onLC (x : Expr) (k : Expr → List Comprehension → Scope → Pos → Bool) : Bool := (tagE x == 13) && k (e1 x) (gns x) (scp x default) (po x)
theorem onLC_of {x : Expr} {k : Expr → List Comprehension → Scope → Pos → Bool} (h : onLC x k = true) : ∃ e gs sc p, x = .ListComp e gs sc p ∧ k e gs sc p = true := by
  unfold onLC at h
  obtain ⟨⟨e, gs, sc, p, rfl⟩, h⟩ := invE_of h
  exact ⟨e, gs, sc, p, rfl, h⟩
noncomputable def sls (x : Stmt) : List Expr := match x with
  | .Assign ts _ _ => ts
  | _ => []
noncomputable def s1 (x : Stmt) : Expr := match x with
  | .Assign _ y _ => y
  | .AugAssign t _ _ _ => t
  | .If t _ _ _ => t
  | .For t _ _ _ _ => t
  | .While t _ _ _ => t
  | .Expr y _ => y
  | _ => .Constant .none 0 ⟨0, 0, 0, 0⟩
noncomputable def sop (x : Stmt) : Operator := match x with
  | .AugAssign _ o _ _ => o
  | _ => .Add
noncomputable def s2 (x : Stmt) : Expr := match x with
  | .AugAssign _ _ y _ => y
  | .For _ it _ _ _ => it
  | _ => .Constant .none 0 ⟨0, 0, 0, 0⟩
noncomputable def so (x : Stmt) : Option Expr := match x with
  | .Return y _ => y
  | _ => none
noncomputable def sb (x : Stmt) : List Stmt := match x with
  | .If _ y _ _ => y
  | .For _ _ y _ _ => y
  | .While _ y _ _ => y
  | _ => []
noncomputable def sc2 (x : Stmt) : List Stmt := match x with
  | .If _ _ z _ => z
  | .For _ _ _ z _ => z
  | .While _ _ z _ => z
  | _ => []
noncomputable def tagS : Stmt → Nat
  | .Assign .. => 0
  | .AugAssign .. => 1
  | .Return .. => 2
  | .If .. => 3
  | .For .. => 4
  | .While .. => 5
  | .Expr .. => 6
  | _ => 99
noncomputable def invS (x : Stmt) : Nat → Prop
  | 0 => ∃ ts y p, x = .Assign ts y p
  | 1 => ∃ t o y p, x = .AugAssign t o y p
  | 2 => ∃ y p, x = .Return y p
  | 3 => ∃ t y z p, x = .If t y z p
  | 4 => ∃ t it y z p, x = .For t it y z p
  | 5 => ∃ t y z p, x = .While t y z p
  | 6 => ∃ y p, x = .Expr y p
  | _ => True
theorem invS_all (x : Stmt) : invS x (tagS x) := by
  cases x <;> first | trivial | exact ⟨_, _, rfl⟩ | exact ⟨_, _, _, rfl⟩ | exact ⟨_, _, _, _, rfl⟩ | exact ⟨_, _, _, _, _, rfl⟩
theorem invS_of {x : Stmt} {n : Nat} {b : Bool} (h : ((tagS x == n) && b) = true) : invS x n ∧ b = true := by
  rw [Bool.and_eq_true] at h
  exact ⟨eq_of_beq h.1 ▸ invS_all x, h.2⟩
@[irreducible] noncomputable def onAsg (x : Stmt) (k : List Expr → Expr → Bool) : Bool := (tagS x == 0) && k (sls x) (s1 x)
theorem onAsg_of {x : Stmt} {k : List Expr → Expr → Bool} (h : onAsg x k = true) : ∃ ts y p, x = .Assign ts y p ∧ k ts y = true := by
  unfold onAsg at h
  obtain ⟨⟨ts, y, p, rfl⟩, h⟩ := invS_of h
  exact ⟨ts, y, p, rfl, h⟩
@[irreducible] noncomputable def onAug (x : Stmt) (k : Expr → Operator → Expr → Bool) : Bool := (tagS x == 1) && k (s1 x) (sop x) (s2 x)
theorem onAug_of {x : Stmt} {k : Expr → Operator → Expr → Bool} (h : onAug x k = true) : ∃ t o y p, x = .AugAssign t o y p ∧ k t o y = true := by
  unfold onAug at h
  obtain ⟨⟨t, o, y, p, rfl⟩, h⟩ := invS_of h
  exact ⟨t, o, y, p, rfl, h⟩
@[irreducible] noncomputable def onRet (x : Stmt) (k : Option Expr → Bool) : Bool := (tagS x == 2) && k (so x)
theorem onRet_of {x : Stmt} {k : Option Expr → Bool} (h : onRet x k = true) : ∃ y p, x = .Return y p ∧ k y = true := by
  unfold onRet at h
  obtain ⟨⟨y, p, rfl⟩, h⟩ := invS_of h
  exact ⟨y, p, rfl, h⟩
@[irreducible] noncomputable def onIfS (x : Stmt) (k : Expr → List Stmt → List Stmt → Bool) : Bool := (tagS x == 3) && k (s1 x) (sb x) (sc2 x)
theorem onIfS_of {x : Stmt} {k : Expr → List Stmt → List Stmt → Bool} (h : onIfS x k = true) : ∃ t y z p, x = .If t y z p ∧ k t y z = true := by
  unfold onIfS at h
  obtain ⟨⟨t, y, z, p, rfl⟩, h⟩ := invS_of h
  exact ⟨t, y, z, p, rfl, h⟩
@[irreducible] noncomputable def onFor (x : Stmt) (k : Expr → Expr → List Stmt → List Stmt → Bool) : Bool := (tagS x == 4) && k (s1 x) (s2 x) (sb x) (sc2 x)
theorem onFor_of {x : Stmt} {k : Expr → Expr → List Stmt → List Stmt → Bool} (h : onFor x k = true) : ∃ t it y z p, x = .For t it y z p ∧ k t it y z = true := by
  unfold onFor at h
  obtain ⟨⟨t, it, y, z, p, rfl⟩, h⟩ := invS_of h
  exact ⟨t, it, y, z, p, rfl, h⟩
@[irreducible] noncomputable def onWh (x : Stmt) (k : Expr → List Stmt → List Stmt → Bool) : Bool := (tagS x == 5) && k (s1 x) (sb x) (sc2 x)
theorem onWh_of {x : Stmt} {k : Expr → List Stmt → List Stmt → Bool} (h : onWh x k = true) : ∃ t y z p, x = .While t y z p ∧ k t y z = true := by
  unfold onWh at h
  obtain ⟨⟨t, y, z, p, rfl⟩, h⟩ := invS_of h
  exact ⟨t, y, z, p, rfl, h⟩
@[irreducible] noncomputable def onEx (x : Stmt) (k : Expr → Bool) : Bool := (tagS x == 6) && k (s1 x)
theorem onEx_of {x : Stmt} {k : Expr → Bool} (h : onEx x k = true) : ∃ y p, x = .Expr y p ∧ k y = true := by
  unfold onEx at h
  obtain ⟨⟨y, p, rfl⟩, h⟩ := invS_of h
  exact ⟨y, p, rfl, h⟩
section
variable {α : Type} {xs : List α}
@[irreducible] noncomputable def on0 (xs : List α) (k : Bool) : Bool := match xs with
  | [] => k
  | _ => false
theorem on0_of {k : Bool} (h : on0 xs k = true) : xs = [] ∧ k = true := by
  unfold on0 at h
  cases xs <;> first | exact ⟨rfl, h⟩ | cases h
@[irreducible] noncomputable def onS (xs : List α) (k : α → List α → Bool) : Bool := match xs with
  | y :: ys => k y ys
  | _ => false
theorem onS_of {k : α → List α → Bool} (h : onS xs k = true) : ∃ y ys, xs = y :: ys ∧ k y ys = true := by
  unfold onS at h
  cases xs <;> first | exact ⟨_, _, rfl, h⟩ | cases h
@[irreducible] noncomputable def on1 (xs : List α) (k : α → Bool) : Bool := onS xs fun y ys => on0 ys (k y)
theorem on1_of {k : α → Bool} (h : on1 xs k = true) : ∃ y, xs = [y] ∧ k y = true := by
  unfold on1 at h
  obtain ⟨y, ys, rfl, h1⟩ := onS_of h
  obtain ⟨rfl, h2⟩ := on0_of h1
  exact ⟨y, rfl, h2⟩
@[irreducible] noncomputable def on2 (xs : List α) (k : α → α → Bool) : Bool := onS xs fun y ys => on1 ys (k y)
theorem on2_of {k : α → α → Bool} (h : on2 xs k = true) : ∃ y z, xs = [y, z] ∧ k y z = true := by
  unfold on2 at h
  obtain ⟨y, ys, rfl, h1⟩ := onS_of h
  obtain ⟨z, rfl, h2⟩ := on1_of h1
  exact ⟨y, z, rfl, h2⟩
end
@[irreducible] noncomputable def onI (v : Const) (k : Int → Bool) : Bool := match v with
  | .int i => k i
  | _ => false
theorem onI_of {v : Const} {k : Int → Bool} (h : onI v k = true) : ∃ i, v = .int i ∧ k i = true := by
  unfold onI at h
  cases v <;> first | exact ⟨_, rfl, h⟩ | cases h
@[irreducible] noncomputable def onB (v : Const) (k : Bool → Bool) : Bool := match v with
  | .bool i => k i
  | _ => false
theorem onB_of {v : Const} {k : Bool → Bool} (h : onB v k = true) : ∃ i, v = .bool i ∧ k i = true := by
  unfold onB at h
  cases v <;> first | exact ⟨_, rfl, h⟩ | cases h
@[irreducible] noncomputable def onT (v : Const) (k : Str → Bool) : Bool := match v with
  | .str i => k i
  | _ => false
theorem onT_of {v : Const} {k : Str → Bool} (h : onT v k = true) : ∃ i, v = .str i ∧ k i = true := by
  unfold onT at h
  cases v <;> first | exact ⟨_, rfl, h⟩ | cases h
noncomputable def isNon : Const → Bool
  | .none => true
  | _ => false
theorem isNon_of {v : Const} (h : isNon v = true) : v = .none := by
  cases v <;> first | rfl | cases h
@[irreducible] noncomputable def onCN (x : Expr) (k : Str → List Expr → Bool) : Bool := onCall x fun f as ks _ => onName f fun n => on0 ks (k n as)
theorem onCN_of {x : Expr} {k : Str → List Expr → Bool} (h : onCN x k = true) : ∃ n np as p, x = .Call (.Name n np) as [] p ∧ k n as = true := by
  unfold onCN at h
  obtain ⟨f, as, ks, p, rfl, h1⟩ := onCall_of h
  obtain ⟨n, np, rfl, h2⟩ := onName_of h1
  obtain ⟨rfl, h3⟩ := on0_of h2
  exact ⟨n, np, as, p, rfl, h3⟩
@[irreducible] noncomputable def onM (x : Expr) (k : Expr → Str → List Expr → Bool) : Bool := onCall x fun f as ks cp => onAt f fun y m ap => on0 ks (decide (ap.endLine = cp.line) && k y m as)
theorem onM_of {x : Expr} {k : Expr → Str → List Expr → Bool} (h : onM x k = true) : ∃ y m ap as cp, x = .Call (.Attribute y m ap) as [] cp ∧ ap.endLine = cp.line ∧ k y m as = true := by
  unfold onM at h
  obtain ⟨f, as, ks, cp, rfl, h1⟩ := onCall_of h
  obtain ⟨y, m, ap, rfl, h2⟩ := onAt_of h1
  obtain ⟨rfl, h3⟩ := on0_of h2
  rw [Bool.and_eq_true] at h3
  exact ⟨y, m, ap, as, cp, rfl, of_decide_eq_true h3.1, h3.2⟩
@[irreducible] noncomputable def onG (g : Comprehension) (k : Expr → Expr → List Expr → Bool) : Bool := decide (g.is_async = 0) && k g.target g.iter g.ifs
theorem onG_of {g : Comprehension} {k : Expr → Expr → List Expr → Bool} (h : onG g k = true) : ∃ t it il, g = ⟨t, it, il, 0⟩ ∧ k t it il = true := by
  obtain ⟨t, it, il, a⟩ := g
  unfold onG at h
  rw [Bool.and_eq_true] at h
  have e : a = 0 := of_decide_eq_true h.1
  subst e
  exact ⟨t, it, il, rfl, h.2⟩
noncomputable def tgNames : Expr → Option (List Str)
  | .Name x _ => some [x]
  | .Tuple es _ _ => es.mapM fun | .Name x _ => some x | _ => none
  | _ => none
noncomputable def ckNs (c : Ck) : List Nat → List Expr → Bool
  | [], es => on0 es true
  | i :: is, es => onS es fun e r => onName e (fun x => nameTo c i x) && ckNs c is r
noncomputable def ckTg (c : Ck) : Tg → Expr → Bool
  | .nm i, x => onName x fun y => nameTo c i y
  | .tp is, x => onTup x fun es => ckNs c is es
  | .pr i is, x => onTup x fun es => on2 es fun a b => onName a (fun y => nameTo c i y) && onTup b fun es => ckNs c is es
noncomputable def tgGe (n : Nat) : Tg → Bool
  | .nm i => decide (n ≤ i)
  | .tp is => is.all fun i => decide (n ≤ i)
  | .pr i is => decide (n ≤ i) && is.all fun i => decide (n ≤ i)
noncomputable def maskN (ts : List Str) (N : List Str) : List Str := N.map fun y => if ts.contains y then y ++ (" " : Str) else y
noncomputable def scopeOk (c : Ck) (sc : Scope) : Bool :=
  decide (sc.kind = .function) && sc.names.all fun p => decide (p.2 ≠ .cell) && (!decide (p.2 = .local) || decide (sc.names.lookup p.1 = some .local)) &&
    (!decide (p.2 = .free) || (match c.sc.names.lookup p.1 with | some .cell => true | some .free => true | _ => false))
noncomputable def namesOk (c : Ck) (sc : Scope) (Nc : List Str) : Bool :=
  decide Nc.Nodup && (List.range c.N.length).all fun i => match Nc[i]? with
    | some x => !visB sc x || (decide (c.N[i]? = some x) && decide (sc.names.lookup x = some .free))
    | none => false
noncomputable def isNot : PySem.UnaryOp → Bool
  | .Not => true
  | _ => false
noncomputable def isNeg : PySem.UnaryOp → Bool
  | .USub => true
  | _ => false
theorem isNot_of {o : PySem.UnaryOp} (h : isNot o = true) : o = .Not := by cases o <;> first | rfl | cases h
theorem isNeg_of {o : PySem.UnaryOp} (h : isNeg o = true) : o = .USub := by cases o <;> first | rfl | cases h
@[irreducible] noncomputable def onO (x : Option Expr) (k : Expr → Bool) : Bool := match x with
  | some y => k y
  | none => false
theorem onO_of {x : Option Expr} {k : Expr → Bool} (h : onO x k = true) : ∃ y, x = some y ∧ k y = true := by
  unfold onO at h
  cases x with
  | none => cases h
  | some y => exact ⟨y, rfl, h⟩
mutual
noncomputable def ckE (c : Ck) : E → Expr → Bool
  | .var i, x => onName x fun y => nameIs c i y
  | .pk i, x => onName x fun y => nameIs c i y
  | .glob g, x => onName x fun y => decide (c.gn[g]? = some y) && globIs c y
  | .int i, x => onC x fun v => onI v fun j => decide (i = j)
  | .bl b, x => onC x fun v => onB v fun j => decide (b = j)
  | .non, x => onC x isNon
  | .str t, x => onC x fun v => onT v fun u => decide (t = u)
  | .bin op a b, x => onBin x fun y o z => opIs op o && ckE c a y && ckE c b z && (!isPk a || np b)
  | .cmp op a b, x => onCmp x fun y os zs => on1 os fun o => on1 zs fun z => copIs op o && ckE c a y && ckE c b z && (!isPk a || np b)
  | .and a b, x => onBo x fun o vs p => onS vs fun y r => onS r fun z r2 => (match o with
    | .And => true
    | .Or => false) && ckE c a y && ckE c b (match r2 with
    | [] => z
    | _ :: _ => .BoolOp .And (z :: r2) p) && !isPk a && !isPk b
  | .or a b, x => onBo x fun o vs p => onS vs fun y r => onS r fun z r2 => (match o with
    | .And => false
    | .Or => true) && ckE c a y && ckE c b (match r2 with
    | [] => z
    | _ :: _ => .BoolOp .Or (z :: r2) p) && !isPk a && !isPk b
  | .not a, x => onUn x fun o y => isNot o && ckE c a y && !isPk a
  | .neg a, x => onUn x fun o y => isNeg o && ckE c a y && !isPk a
  | .fstr t a, x => onJS x fun vs => on2 vs fun u w => onC u (fun v => onT v fun s => decide (t = s)) && onFV w fun y cv sp => decide (cv = -1) && sp.isNone && ckE c a y && !isPk a
  | .ite k a b, x => onIf x fun t y z => ckE c k t && ckE c a y && ckE c b z && !isPk a && !isPk b
  | .tup es, x => onTup x fun xs => ckEs c es xs && noPk es
  | .lst es, x => onLst x fun xs => ckEs c es xs && noPk es
  | .ix a b, x => onSub x fun y z => ckE c a y && ckE c b z && (!isPk a || np b) && !isPk b
  | .sl a lo hi, x => onSub x fun y z => onSl z fun l h s => s.isNone && (ckE c a y && ckO c lo l && ckO c hi h && (!isPk a || (npO lo && npO hi)))
  | .call f es, x => onCN x fun n xs => (match c.fns[f]? with
      | some (m, ps) => decide (m = n) && globIs c n && decide (ps.length = esLen es) && ckEs c es xs && noPk es && !xs.isEmpty
      | none => false)
  | .blt f es, x => onCN x fun n xs => decide (bltNm f = n) && globIs c n && (match tyName f with
      | some T => on2 xs fun y w => onName w fun t => decide (t = (T : Str)) && globIs c t && ckEs c es [y] && okEs es
      | none => !xs.isEmpty && ckEs c es xs && okEs es)
  | .callv i es, x => onCN x fun n xs => nameIs c i n && ckEs c es xs && noPk es && !xs.isEmpty
  | .callF f es i, x => onCN x fun n xs => (match c.fns[f]?, xs.getLast? with
      | some (m, ps), some y => onName y fun y => decide (m = n) && globIs c n && decide (ps.length = esLen es + 1) && ckEs c es xs.dropLast && noPk es && nameIs c i y && !xs.dropLast.isEmpty
      | _, _ => false)
  | .comp k tg src ifs elt, x => onLC x fun ex gs sc _ => on1 gs fun g => onG g fun t it il => (match tgNames t with
      | some ts => decide (ts.length = k) && tgGe c.N.length tg && scopeOk c sc && namesOk c sc (maskN ts c.N ++ ts) && ckTg ⟨maskN ts c.N ++ ts, sc, c.fns, c.gn⟩ tg t && ckI c src it &&
          ckG ⟨maskN ts c.N ++ ts, sc, c.fns, c.gn⟩ ifs il && ckE ⟨maskN ts c.N ++ ts, sc, c.fns, c.gn⟩ elt ex && !isPk elt
      | none => false)
noncomputable def ckEs (c : Ck) : Es → List Expr → Bool
  | .nil, xs => on0 xs true
  | .cons e es, xs => onS xs fun y ys => ckE c e y && ckEs c es ys
noncomputable def ckO (c : Ck) : Eo → Option Expr → Bool
  | .no, x => x.isNone
  | .yes e, x => onO x fun y => ckE c e y && !isPk e
noncomputable def ckG (c : Ck) : Eo → List Expr → Bool
  | .no, x => on0 x true
  | .yes e, x => on1 x fun y => ckE c e y
noncomputable def ckI (c : Ck) : It → Expr → Bool
  | .rng e, x => onCN x fun n xs => on1 xs fun y => decide (n = ("range" : Str)) && globIs c n && ckE c e y && !isPk e
  | .sq e, x => ckE c e x && !isPk e
end
theorem ckEs_cons {c : Ck} {es : Es} {y : Expr} {ys : List Expr} (h : ckEs c es (y :: ys) = true) : ∃ e es', es = .cons e es' ∧ ckE c e y = true ∧ ckEs c es' ys = true := by
  cases es with
  | nil => cases (on0_of h).1
  | cons e es =>
    obtain ⟨_, _, q, h'⟩ := onS_of h
    cases q
    rw [Bool.and_eq_true] at h'
    exact ⟨e, es, rfl, h'⟩
theorem tg_shape {c : Ck} {tg : Tg} {t : Expr} (h : ckTg c tg t = true) : (∃ x p, t = .Name x p) ∨ ∃ es n p, t = .Tuple es n p := by
  cases tg with
  | nm i => obtain ⟨x, p, rfl, _⟩ := onName_of h; exact .inl ⟨x, p, rfl⟩
  | tp is => obtain ⟨es, n, p, rfl, _⟩ := onTup_of h; exact .inr ⟨es, n, p, rfl⟩
  | pr i is => obtain ⟨es, n, p, rfl, _⟩ := onTup_of h; exact .inr ⟨es, n, p, rfl⟩
noncomputable def headOk : Expr → Bool
  | .Name .. | .Constant .. | .BinOp .. | .Compare .. | .BoolOp .. | .UnaryOp .. | .IfExp .. | .Tuple .. | .List .. | .Subscript .. | .Call .. | .ListComp .. => true
  | .JoinedStr .. => true
  | _ => false
theorem hdN {x : Expr} {k : Str → Bool} (h : onName x k = true) : headOk x = true := by obtain ⟨_, _, rfl, _⟩ := onName_of h; rfl
theorem hdC {x : Expr} {k : Const → Bool} (h : onC x k = true) : headOk x = true := by obtain ⟨_, _, _, rfl, _⟩ := onC_of h; rfl
theorem hdF {x : Expr} {k : Str → List Expr → Bool} (h : onCN x k = true) : headOk x = true := by obtain ⟨_, _, _, _, rfl, _⟩ := onCN_of h; rfl
theorem hdB {x : Expr} {k : PySem.BoolOp → List Expr → Pos → Bool} (h : onBo x k = true) : headOk x = true := by obtain ⟨_, _, _, rfl, _⟩ := onBo_of h; rfl
theorem hdU {x : Expr} {k : PySem.UnaryOp → Expr → Bool} (h : onUn x k = true) : headOk x = true := by obtain ⟨_, _, _, rfl, _⟩ := onUn_of h; rfl
theorem hdS {x : Expr} {k : Expr → Expr → Bool} (h : onSub x k = true) : headOk x = true := by obtain ⟨_, _, _, rfl, _⟩ := onSub_of h; rfl
theorem ck_head {c : Ck} {e : E} {x : Expr} (h : ckE c e x = true) : headOk x = true := by
  cases e with
  | var i => exact hdN h
  | pk i => exact hdN h
  | glob g => exact hdN h
  | int i => exact hdC h
  | bl b => exact hdC h
  | non => exact hdC h
  | str t => exact hdC h
  | bin op a b => obtain ⟨_, _, _, _, rfl, _⟩ := onBin_of h; rfl
  | cmp op a b => obtain ⟨_, _, _, _, rfl, _⟩ := onCmp_of h; rfl
  | and a b => exact hdB h
  | or a b => exact hdB h
  | not a => exact hdU h
  | neg a => exact hdU h
  | fstr t a => obtain ⟨_, _, rfl, _⟩ := onJS_of h; rfl
  | ite k a b => obtain ⟨_, _, _, _, rfl, _⟩ := onIf_of h; rfl
  | tup es => obtain ⟨_, _, _, rfl, _⟩ := onTup_of h; rfl
  | lst es => obtain ⟨_, _, rfl, _⟩ := onLst_of h; rfl
  | ix a b => exact hdS h
  | sl a lo hi => exact hdS h
  | call f es => exact hdF h
  | blt f es => exact hdF h
  | callv i es => exact hdF h
  | callF f es i => exact hdF h
  | comp k tg src ifs elt => obtain ⟨_, _, _, _, rfl, _⟩ := onLC_of h; rfl
theorem head_star {x : Expr} (h : headOk x = true) (xs : List Expr) (env : Env) : starEach (x :: xs) env = (false, eval x env) :: starEach xs env := by
  cases x <;> first | rfl | (exact absurd h Bool.false_ne_true)
theorem head_set {x : Expr} (h : headOk x = true) (env : Env) (v : Value) : foldedSetIterable x env v = pure v := by
  cases x <;> first | rfl | (exact absurd h Bool.false_ne_true)
theorem head_mark {x : Expr} (h : headOk x = true) (op : CmpOp) : behindInMarks op x = false := by
  cases x <;> first | rfl | (exact absurd h Bool.false_ne_true)
theorem head_ix {x : Expr} (h : headOk x = true) : L2.PlainIx x := by
  intro o i
  cases x <;> first | rfl | (exact absurd h Bool.false_ne_true)
noncomputable def isComp : Expr → Bool
  | .ListComp .. => true
  | _ => false
theorem head_swaps {x : Expr} (h : headOk x = true) (hc : isComp x = false) (t : Option Expr) (n : Nat) (env : Env) : swapsWith x t n env = pure false := by
  cases x <;> first | rfl | (exact absurd h Bool.false_ne_true) | (exact absurd hc.symm Bool.false_ne_true)
noncomputable def isCmpE : E → Bool
  | .comp .. => true
  | _ => false
@[irreducible] noncomputable def onNP (x : Expr) (k : Str → Pos → Bool) : Bool := (tagE x == 0) && k (st x) (po x)
theorem onNP_of {x : Expr} {k : Str → Pos → Bool} (h : onNP x k = true) : ∃ y p, x = .Name y p ∧ k y p = true := by
  unfold onNP at h
  obtain ⟨⟨y, p, rfl⟩, h⟩ := invE_of h
  exact ⟨y, p, rfl, h⟩
noncomputable def isPB (x : Stmt) (n : Nat) : Bool := match x with
  | .Pass _ => n == 0
  | .Break _ => n == 1
  | .Continue _ => n == 2
  | _ => false
theorem isPB_of {x : Stmt} {n : Nat} (h : isPB x n = true) : ∃ p, (n = 0 ∧ x = .Pass p) ∨ (n = 1 ∧ x = .Break p) ∨ (n = 2 ∧ x = .Continue p) := by
  cases x <;> first | (cases h; done) | skip
  · exact ⟨_, .inl ⟨eq_of_beq h, rfl⟩⟩
  · exact ⟨_, .inr (.inl ⟨eq_of_beq h, rfl⟩)⟩
  · exact ⟨_, .inr (.inr ⟨eq_of_beq h, rfl⟩)⟩
noncomputable def newOk : E → Bool
  | .lst _ => true
  | .blt .toLst _ => true
  | .sl _ _ _ => true
  | _ => false
noncomputable def isNm (x : Expr) : Bool := tagE x == 0
noncomputable def isTp (x : Expr) : Bool := tagE x == 7
mutual
noncomputable def ckS (c : Ck) : S → Stmt → Bool
  | .asg tg e, x => onAsg x fun ts y => on1 ts fun t => ckTg c tg t && ckE c e y && !isPk e && !isComp y && (isNm t || !isTp y)
  | .new i e, x => onAsg x fun ts y => on1 ts fun t => onName t fun t => nameTo c i t && ckE c e y && !isComp y && newOk e
  | .cmp _ i e, x => isCmpE e && onAsg x fun ts y => on1 ts fun t => onNP t fun t tp => onLC y fun ex gs sc p => nameTo c i t && ckE c e (.ListComp ex gs sc p) && decide (c.sc.names.lookup t = some .local) && decide (tp.line = p.line) && !(sc.names.any fun (n, k) => n == t && (k == .local || k == .cell))
  | .aug i op e, x => onAug x fun t o y => onName t fun t => nameTo c i t && opIs op o && ckE c e y && !isPk e
  | .ret e, x => onRet x fun y => onO y fun y => ckE c e y && !isPk e
  | .retL _ _ _ _, _ => false
  | .retN, x => onRet x fun y => y.isNone
  | .ifs k a b, x => onIfS x fun t y z => ckE c k t && ckSs c a y && ckSs c b z
  | .for_ tg src body, x => onFor x fun t it y z => on0 z (ckTg c tg t && ckI c src it && ckSs c body y)
  | .forZ tg es body, x => onFor x fun t it y z => on0 z (onCN it fun n xs => on2 xs fun u v => isTp t && decide (n = ("zip" : Str)) && globIs c n && ckTg c tg t && ckEs c es [u, v] && noPk es && ckSs c body y)
  | .while_ k body, x => onWh x fun t y z => on0 z (ckE c k t && ckSs c body y)
  | .append i e, x => onEx x fun w => onM w fun y m as => onName y fun y => on1 as fun z => decide (m = ("append" : Str)) && nameIs c i y && ckE c e z && !isPk e
  | .pass, x => isPB x 0
  | .brk, x => isPB x 1
  | .cont, x => isPB x 2
noncomputable def ckSs (c : Ck) : Ss → List Stmt → Bool
  | .nil, xs => on0 xs true
  | .cons s ss, xs => onS xs fun y ys => ckS c s y && ckSs c ss ys
end
end PP
end
section
namespace PP
open PySem L2 PyProof.Rows
variable [Tbs]
noncomputable def PostE (K : PySem.W.Frag) (G : Gh) (F : Addr → Prop) (σ : L2.St) (H : Hp) (m nP : Bool) (d : D) (δ' : Loc) (Q : VK) : Prop :=
  ∀ v H' F', Step G F H F' H' → (nP = true → Sim H H') → Ok K G F' σ H' δ' → RelM m K H' F' d v → Q v H'
noncomputable def tE (K : PySem.W.Frag) (cx : Cl) (e : E) : TE := fun σ H Q => ∃ G F δ d δ', Ok K G F σ H δ ∧ evE cx e δ = some (d, δ') ∧ PostE K G F σ H (isPk e) (np e) d δ' Q
noncomputable def tT (K : PySem.W.Frag) (cx : Cl) (e : E) : TT := fun σ H Q => ∃ G F δ b δ', Ok K G F σ H δ ∧ evT cx e δ = some (b, δ') ∧
  ∀ H' F', Step G F H F' H' → (np e = true → Sim H H') → Ok K G F' σ H' δ' → Q b H'
noncomputable def RelML (K : PySem.W.Frag) (H : Hp) (F : Addr → Prop) : Es → List D → List V → Prop
  | .nil, ds, vs => ds = [] ∧ vs = []
  | .cons e es, ds, vs => ∃ d ds' v vs', ds = d :: ds' ∧ vs = v :: vs' ∧ RelM (isPk e) K H F d v ∧ RelML K H F es ds' vs'
noncomputable def tEs (K : PySem.W.Frag) (cx : Cl) (es : Es) : TA := fun σ H Q => ∃ G F δ ds δ', Ok K G F σ H δ ∧ evEs cx es δ = some (ds, δ') ∧
  ∀ vs H' F', Step G F H F' H' → (npS es = true → Sim H H') → Ok K G F' σ H' δ' → RelML K H' F' es ds vs → Q vs H'
noncomputable def tO (K : PySem.W.Frag) (cx : Cl) (o : Eo) : TO := fun σ H Q => ∃ G F δ d δ', Ok K G F σ H δ ∧ evO cx o δ = some (d, δ') ∧
  ∀ H' F', Step G F H F' H' → (npO o = true → Sim H H') → Ok K G F' σ H' δ' → Q d H'
noncomputable def tG (K : PySem.W.Frag) (cx : Cl) (o : Eo) : TT := fun σ H Q => ∃ G F δ b δ', Ok K G F σ H δ ∧ evG cx o δ = some (b, δ') ∧
  ∀ H' F', Step G F H F' H' → (npO o = true → Sim H H') → Ok K G F' σ H' δ' → Q b H'
noncomputable def Wk (K : PySem.W.Frag) (G : Gh) (F : Addr → Prop) (H : Hp) (J : L2.It) (ds : List D) : Prop := ∀ F2 H2, Step G F H F2 H2 → FD F2 H2 → ∀ i : Nat,
  (∀ d, ds[i]? = some d → J.go i H2 ∧ ∀ x H3, J.yld i H2 x H3 → H3 = H2 ∧ Rel K H2 F2 d x) ∧ (i = ds.length → J.stop i H2)
noncomputable def tI (K : PySem.W.Frag) (cx : Cl) (t : It) : TI := fun σ H R => ∃ G F δ ds δ', Ok K G F σ H δ ∧ evI cx t δ = some (ds, δ') ∧
  ∀ J H' F', Step G F H F' H' → (npI t = true → Sim H H') → Ok K G F' σ H' δ' → (∀ G', Wk K G' F' H' J ds) → R J H'
section
variable {K : PySem.W.Frag} {cx : Cl} {X : Cx}
theorem PE.imp {e : Expr} {t t' : TE} (h : PE X e t) (w : ∀ σ H Q, t' σ H Q → t σ H Q) : PE X e t' := fun pins s σ H Q I q => h pins s σ H Q I (w σ H Q q)
theorem PT.imp {e : Expr} {t t' : TT} (h : PT X e t) (w : ∀ σ H Q, t' σ H Q → t σ H Q) : PT X e t' := fun pins s σ H Q I q => h pins s σ H Q I (w σ H Q q)
theorem two {a b : E} {σ : L2.St} {G : Gh} {H : Hp} {F : Addr → Prop} {δ δ1 δ2 : Loc} {x y : D} (ok : Ok K G F σ H δ) (ea : evE cx a δ = some (x, δ1)) (eb : evE cx b δ1 = some (y, δ2)) (pc : (!isPk a || np b) = true) {R : V → V → Hp → Prop}
    (k : ∀ v u H2 F2, Step G F H F2 H2 → ((np a && np b) = true → Sim H H2) → Ok K G F2 σ H2 δ2 → RelM (isPk a) K H2 F2 x v → RelM (isPk b) K H2 F2 y u → R v u H2) :
    tE K cx a σ H fun v H1 => tE K cx b σ H1 fun u H2 => R v u H2 := by
  refine ⟨G, F, δ, x, δ1, ok, ea, fun v H1 F1 st1 sm1 ok1 r1 => ⟨G, F1, δ1, y, δ2, ok1, eb, fun u H2 F2 st2 sm2 ok2 r2 => ?_⟩⟩
  refine k v u H2 F2 (st1.trans st2) (fun z => ?_) ok2 (RelM.step ok1.fd st2 (fun z => sm2 (by rw [z] at pc; simpa using pc)) r1) r2
  rw [Bool.and_eq_true] at z
  exact (sm1 z.1).trans (sm2 z.2)
theorem RelB.int {H : Hp} {F : Addr → Prop} {i : Int} {v : V} (h : RelB K H F (.int i) v) : v = .int i := by
  rcases h with h | ⟨_, _, _, e, _⟩
  · unfold Rel at h; exact h
  · cases e
theorem RelB.bl {H : Hp} {F : Addr → Prop} {i : Bool} {v : V} (h : RelB K H F (.bl i) v) : v = .bl i := by
  rcases h with h | ⟨_, _, _, e, _⟩
  · unfold Rel at h; exact h
  · cases e
theorem RelB.str {H : Hp} {F : Addr → Prop} {i : Str} {v : V} (h : RelB K H F (.str i) v) : v = .str i := by
  rcases h with h | ⟨_, _, _, e, _⟩
  · unfold Rel at h; exact h
  · cases e
theorem RelB.tup {H : Hp} {F : Addr → Prop} {ds : List D} {v : V} (h : RelB K H F (.tup ds) v) : ∃ a xs, v = .ref a ∧ SqT K H a xs ∧ RelL K H F ds xs := by
  rcases h with h | ⟨_, _, _, e, _⟩
  · unfold Rel at h; exact h
  · cases e
theorem RelB.lst {H : Hp} {F : Addr → Prop} {ds : List D} {v : V} (h : RelB K H F (.lst ds) v) : ∃ a xs, v = .ref a ∧ LsB K H a xs ∧ RelL K H F ds xs := by
  rcases h with h | ⟨a, xs, _, e, e2, h1, h2⟩
  · unfold Rel at h; obtain ⟨a, xs, e, h1, h2⟩ := h; exact ⟨a, xs, e, h1.b, h2⟩
  · cases e; exact ⟨a, xs, e2, .inl (.inl h1), h2⟩
theorem rel_int {H : Hp} {F : Addr → Prop} (i : Int) : Rel K H F (.int i) (.int i) := by unfold Rel; rfl
theorem rel_bl {H : Hp} {F : Addr → Prop} (i : Bool) : Rel K H F (.bl i) (.bl i) := by unfold Rel; rfl
theorem rel_str {H : Hp} {F : Addr → Prop} (i : Str) : Rel K H F (.str i) (.str i) := by unfold Rel; rfl
theorem rel_non {H : Hp} {F : Addr → Prop} : Rel K H F .non .non := by unfold Rel; rfl
theorem Ok.laid {σ : L2.St} {G : Gh} {H : Hp} {F : Addr → Prop} {δ : Loc} {p : Addr} (ok : Ok K G F σ H δ) (hp : H p = none) (o : HO) : Ok K G F σ (upd H p o) δ ∧ Step G F H F (upd H p o) ∧ Sim H (upd H p o) ∧ ¬ F p :=
  ⟨ok.same' (same_new hp o), Step.of_same (same_new hp o), .of (same_new hp o), fun z => by rcases ok.fd p z with ⟨xs, e⟩ | ⟨xs, e, _⟩ | ⟨xs, e⟩ <;> (rw [hp] at e; cases e)⟩
theorem rel_newTup {σ : L2.St} {G : Gh} {H : Hp} {F : Addr → Prop} {δ : Loc} {p : Addr} {ds : List D} {xs : List V} (ok : Ok K G F σ H δ) (hp : H p = none) (r : RelL K H F ds xs) : Rel K (upd H p (.tup xs)) F (.tup ds) (.ref p) := by
  unfold Rel
  exact ⟨p, xs, rfl, SqT.of upd_same, RelL.step (G := G) ok.fd (Step.of_same (same_new hp _)) ds xs r⟩
theorem rel_newLst {σ : L2.St} {G : Gh} {H : Hp} {F : Addr → Prop} {δ : Loc} {p : Addr} {ds : List D} {xs : List V} (ok : Ok K G F σ H δ) (hp : H p = none) (r : RelL K H F ds xs) : Rel K (upd H p (.lst xs)) F (.lst ds) (.ref p) := by
  unfold Rel
  exact ⟨p, xs, rfl, .inl ⟨.inl upd_same, (ok.laid hp (.lst xs)).2.2.2⟩, RelL.step (G := G) ok.fd (Step.of_same (same_new hp _)) ds xs r⟩
theorem snd_bin {a b : E} {y z : Expr} {op : Op} {o : Operator} {pos : Pos} (ho : opIs op o = true) (pc : (!isPk a || np b) = true) (ha : PE X y (tE X.K cx a)) (hb : PE X z (tE X.K cx b)) : PE X (.BinOp y o z pos) (tE X.K cx (.bin op a b)) := by
  intro pins s σ H Q I h
  obtain ⟨G, F, δ, d, δ', ok, ev, post⟩ := h
  simp only [evE, Option.bind_eq_bind, Option.bind_eq_some_iff] at ev
  obtain ⟨⟨x, δ1⟩, ea, ⟨y', δ2⟩, eb, d', hd, e⟩ := ev
  cases e
  dsimp only at eb hd post
  have fin : ∀ v H2 F2, Step G F H F2 H2 → ((np a && np b) = true → Sim H H2) → Ok X.K G F2 σ H2 δ2 → Rel X.K H2 F2 d v → Q v H2 := fun v H2 F2 st sm ok2 r => post v H2 F2 st sm ok2 r
  cases op <;> cases o <;> first | (exact absurd ho Bool.false_ne_true) | skip
  · refine pe_op (op_add.or (op_add_str.or (op_catT.or op_catR))) ha hb pins s σ H Q I (two ok ea eb pc fun v u H2 F2 st sm ok2 r1 r2 => ?_)
    change addD x y' = some d at hd
    unfold addD at hd
    split at hd
    · cases hd
      have e1 := r1.b.int; have e2 := r2.b.int; subst e1; subst e2
      exact .inl ⟨_, _, rfl, rfl, fin _ _ _ st sm ok2 (rel_int _)⟩
    · split at hd
      · cases hd
        have e1 := r1.b.str; have e2 := r2.b.str; subst e1; subst e2
        exact .inr (.inl ⟨_, _, rfl, rfl, ‹_›, fin _ _ _ st sm ok2 (rel_str _)⟩)
      · cases hd
    · split at hd
      · rename_i q
        cases hd
        obtain ⟨p1, xs1, e1, s1, l1⟩ := r1.b.tup
        obtain ⟨p2, xs2, e2, s2, l2⟩ := r2.b.tup
        subst e1; subst e2
        refine .inr (.inr (.inl ⟨p1, p2, xs1, xs2, rfl, rfl, s1, s2, fun z => q.1 ?_, by rw [l1.length, l2.length]; exact q.2, fun z => ?_, fun _ p hp => ?_⟩))
        · have := l1.length; rw [z] at this; exact List.length_eq_zero_iff.mp this.symm
        · refine fin _ _ _ st sm ok2 ?_
          have e : ∀ {ys : List D}, RelL X.K H2 F2 ys xs2 → ys = [] := fun {ys} r => by have := r.length; rw [z] at this; exact List.length_eq_zero_iff.mp this.symm
          have := e l2
          subst this
          rw [List.append_nil]
          unfold Rel
          exact ⟨p1, xs1, rfl, s1, l1⟩
        · obtain ⟨o1, o2, o3, o4⟩ := ok2.laid hp (.tup (xs1 ++ xs2))
          exact fin _ _ _ (st.trans o2) (fun z => (sm z).trans o3) o1 (rel_newTup ok2 hp (l1.append l2))
      · cases hd
    · split at hd
      · rename_i q
        cases hd
        obtain ⟨p1, xs1, e1, s1, l1⟩ := r1.b.lst
        obtain ⟨p2, xs2, e2, s2, l2⟩ := r2.b.lst
        subst e1; subst e2
        refine .inr (.inr (.inr ⟨p1, p2, xs1, xs2, rfl, rfl, s1, s2, by rw [l1.length, l2.length]; exact q, fun p hp => ?_⟩))
        obtain ⟨o1, o2, o3, o4⟩ := ok2.laid hp (.lst (xs1 ++ xs2))
        exact fin _ _ _ (st.trans o2) (fun z => (sm z).trans o3) o1 (rel_newLst ok2 hp (l1.append l2))
      · cases hd
    · cases hd
  · refine pe_op op_sub ha hb pins s σ H Q I (two ok ea eb pc fun v u H2 F2 st sm ok2 r1 r2 => ?_)
    change subD x y' = some d at hd
    unfold subD at hd
    split at hd <;> first | (cases hd; done) | skip
    cases hd
    have e1 := r1.b.int; have e2 := r2.b.int; subst e1; subst e2
    exact ⟨_, _, rfl, rfl, fin _ _ _ st sm ok2 (rel_int _)⟩
  · refine pe_op op_mul ha hb pins s σ H Q I (two ok ea eb pc fun v u H2 F2 st sm ok2 r1 r2 => ?_)
    change mulD x y' = some d at hd
    unfold mulD at hd
    split at hd <;> first | (cases hd; done) | skip
    · split at hd
      · rename_i q
        cases hd
        have e1 := r1.b.int; have e2 := r2.b.int; subst e1; subst e2
        refine ⟨_, _, rfl, rfl, ?_, fin _ _ _ st sm ok2 (rel_int _)⟩
        unfold mulOk at q
        simpa [CMul] using q
      · cases hd
  · refine pe_op op_mod ha hb pins s σ H Q I (two ok ea eb pc fun v u H2 F2 st sm ok2 r1 r2 => ?_)
    change modD x y' = some d at hd
    unfold modD at hd
    split at hd <;> first | (cases hd; done) | skip
    split at hd
    · rename_i q
      cases hd
      have e1 := r1.b.int; have e2 := r2.b.int; subst e1; subst e2
      exact ⟨_, _, rfl, rfl, q, fin _ _ _ st sm ok2 (rel_int _)⟩
    · cases hd
  · refine pe_op op_fdiv ha hb pins s σ H Q I (two ok ea eb pc fun v u H2 F2 st sm ok2 r1 r2 => ?_)
    change fdivD x y' = some d at hd
    unfold fdivD at hd
    split at hd <;> first | (cases hd; done) | skip
    split at hd
    · rename_i q
      cases hd
      have e1 := r1.b.int; have e2 := r2.b.int; subst e1; subst e2
      exact ⟨_, _, rfl, rfl, q, fin _ _ _ st sm ok2 (rel_int _)⟩
    · cases hd
end
end PP
end
section
namespace PP
open PySem L2 PySem.SeqAt PyProof.Rows PySem.W
variable [Tbs]
end PP
end
section
namespace PP
open PySem PySem.W PyProof.Rows
section
variable {prog : Program} {w : World} {A : Around} {E : Value → Shared → Prop} {s : Shared}
end
end PP
end
section
namespace PP
open PySem L2 PySem.SeqAt PyProof.Rows PySem.W
variable [Tbs]
end PP
end
section
namespace PP
open PySem L2 PyProof.Rows
variable [Tbs]
section
variable {K : PySem.W.Frag} {cx : Cl} {X : Cx}
theorem relm {H : Hp} {F : Addr → Prop} {d : D} {v : V} (r : Rel K H F d v) : RelM false K H F d v := r
noncomputable def rC (K : PySem.W.Frag) (op : Cop) : R2 := fun x y H Q => ∃ F a b k, RelB K H F a x ∧ RelB K H F b y ∧ cmpD op a b = some k ∧ Q (.bl k) H
theorem ordInv {p : Int → Int → Bool} {a b : D} {k : Bool} (h : ordD p a b = some k) : ∃ i j, a = .int i ∧ b = .int j ∧ k = p i j := by
  unfold ordD at h
  split at h
  · cases h; exact ⟨_, _, rfl, rfl, rfl⟩
  · cases h
theorem inInv {a b : D} {k : Bool} (h : inD a b = some k) : (∃ ds, (b = .lst ds ∨ b = .tup ds) ∧ dep a ≤ 150 ∧ k = ds.any fun y => eqD y a) ∨ ∃ x y, a = .str x ∧ b = .str y ∧ k = occS y x := by
  unfold inD at h
  split at h
  · split at h
    · cases h; exact .inl ⟨_, .inl rfl, ‹_›, rfl⟩
    · cases h
  · split at h
    · cases h; exact .inl ⟨_, .inr rfl, ‹_›, rfl⟩
    · cases h
  · split at h
    · cases h; exact .inr ⟨_, _, rfl, rfl, rfl⟩
    · cases h
  · cases h
theorem op_notin_str : OpR X (compareOp .NotIn) (fun x y H Q => ∃ i j, x = .str i ∧ y = .str j ∧ Q (.bl (!occS j i)) H) := by
  intro pins s σ H x y v u Q I rx ry h
  obtain ⟨i, j, rfl, rfl, q⟩ := h
  obtain ⟨t, rfl⟩ := rx
  obtain ⟨t', rfl⟩ := ry
  exact PySem.P.notIn_str ⟨.bl _, H, I, rfl, q⟩
theorem OpR.imp {f : Value → Value → Sem Value} {r r' : R2} (h : OpR X f r) (w : ∀ x y H Q, r' x y H Q → r x y H Q) : OpR X f r' := fun pins s σ H x y v u Q I rx ry q => h pins s σ H x y v u Q I rx ry (w _ _ _ _ q)
theorem isInv {H : Hp} {F : Addr → Prop} {a b : D} {k : Bool} {x y : V} (h : isD a b = some k) (ra : RelB K H F a x) (rb : RelB K H F b y) : y = .non ∧ k = decide (x = .non) := by
  cases b <;> first | (cases h; done) | skip
  cases h
  refine ⟨?_, ?_⟩
  · rcases rb with r | ⟨_, _, _, e, _⟩
    · unfold Rel at r; exact r
    · cases e
  · rcases ra with r | ⟨_, _, _, rfl, rfl, _⟩
    · cases a <;> unfold Rel at r <;> first | (subst r; rfl) | (obtain ⟨_, _, rfl, _⟩ := r; rfl) | exact r.elim
    · rfl
theorem opC (hu : X.A.units + 200 < cLine) {op : Cop} {o : CmpOp} (ho : copIs op o = true) : OpR X (compareOp o) (rC X.K op) := by
  cases op <;> cases o <;> first | (exact absurd ho Bool.false_ne_true) | skip
  · refine OpR.imp op_lt fun x y H Q ⟨F, a, b, k, ra, rb, e, q⟩ => ?_
    obtain ⟨i, j, rfl, rfl, rfl⟩ := ordInv e
    exact ⟨i, j, ra.int, rb.int, q⟩
  · refine OpR.imp op_gt fun x y H Q ⟨F, a, b, k, ra, rb, e, q⟩ => ?_
    obtain ⟨i, j, rfl, rfl, rfl⟩ := ordInv e
    exact ⟨i, j, ra.int, rb.int, q⟩
  · refine OpR.imp (op_eqD hu) fun x y H Q ⟨F, a, b, k, ra, rb, e, q⟩ => ?_
    change (if depOk a b = true then some (eqD a b) else none) = some k at e
    split at e
    · cases e; exact ⟨F, a, b, ra, rb, ‹_›, q⟩
    · cases e
  · refine OpR.imp (op_neD hu) fun x y H Q ⟨F, a, b, k, ra, rb, e, q⟩ => ?_
    change (if depOk a b = true then some (!eqD a b) else none) = some k at e
    split at e
    · cases e; exact ⟨F, a, b, ra, rb, ‹_›, q⟩
    · cases e
  · intro pins s σ H x y v u Q I rx ry h
    obtain ⟨F, a, b, k, ra, rb, e, q⟩ := h
    rcases inInv e with ⟨ds, hb, hd, rfl⟩ | ⟨x', y', rfl, rfl, rfl⟩
    · refine op_inD hu pins s σ H x y v u Q I rx ry ⟨F, a, ds, ra, ?_, hd, q⟩
      rcases hb with rfl | rfl
      · exact .inl rb
      · exact .inr rb
    · exact op_in_str pins s σ H x y v u Q I rx ry ⟨x', y', ra.str, rb.str, q⟩
  · intro pins s σ H x y v u Q I rx ry h
    obtain ⟨F, a, b, k, ra, rb, e, q⟩ := h
    change (inD a b).map (!·) = some k at e
    rw [Option.map_eq_some_iff] at e
    obtain ⟨k', e, rfl⟩ := e
    rcases inInv e with ⟨ds, hb, hd, rfl⟩ | ⟨x', y', rfl, rfl, rfl⟩
    · refine op_notInD hu pins s σ H x y v u Q I rx ry ⟨F, a, ds, ra, ?_, hd, q⟩
      rcases hb with rfl | rfl
      · exact .inl rb
      · exact .inr rb
    · exact op_notin_str pins s σ H x y v u Q I rx ry ⟨x', y', ra.str, rb.str, q⟩
  · refine OpR.imp op_isN fun x y H Q ⟨F, a, b, k, ra, rb, e, q⟩ => ?_
    obtain ⟨e1, e2⟩ := isInv e ra rb
    exact ⟨e1, e2 ▸ q⟩
  · refine OpR.imp op_notN fun x y H Q ⟨F, a, b, k, ra, rb, e, q⟩ => ?_
    change (isD a b).map (!·) = some k at e
    rw [Option.map_eq_some_iff] at e
    obtain ⟨k', e, rfl⟩ := e
    obtain ⟨e1, e2⟩ := isInv e ra rb
    exact ⟨e1, e2 ▸ q⟩
theorem cmp_ev {op : Cop} {a b : E} {δ : Loc} {d : D} {δ' : Loc} (ev : evE cx (.cmp op a b) δ = some (d, δ')) : ∃ x δ1 y k, evE cx a δ = some (x, δ1) ∧ evE cx b δ1 = some (y, δ') ∧ cmpD op x y = some k ∧ d = .bl k := by
  simp only [evE, Option.bind_eq_bind, Option.bind_eq_some_iff] at ev
  obtain ⟨⟨x, δ1⟩, ea, ⟨y', δ2⟩, eb, k, hd, e⟩ := ev
  cases e
  exact ⟨x, δ1, y', k, ea, eb, hd, rfl⟩
theorem cmp_evT {op : Cop} {a b : E} {δ : Loc} {k : Bool} {δ' : Loc} (ev : evT cx (.cmp op a b) δ = some (k, δ')) : ∃ x δ1 y, evE cx a δ = some (x, δ1) ∧ evE cx b δ1 = some (y, δ') ∧ cmpD op x y = some k := by
  simp only [evT, Option.bind_eq_bind, Option.bind_eq_some_iff] at ev
  obtain ⟨⟨x, δ1⟩, ea, ⟨y', δ2⟩, eb, k, hd, e⟩ := ev
  cases e
  exact ⟨x, δ1, y', ea, eb, hd⟩
theorem snd_cmp {a b : E} {y z : Expr} {op : Cop} {o : CmpOp} {pos : Pos} (hu : X.A.units + 200 < cLine) (ho : copIs op o = true) (pc : (!isPk a || np b) = true) (ha : PE X y (tE X.K cx a)) (hb : PE X z (tE X.K cx b)) (hm : behindInMarks o z = false) :
    PE X (.Compare y [o] [z] pos) (tE X.K cx (.cmp op a b)) := by
  refine PE.imp (pe_cmpR (opC hu ho) ha hb hm) fun σ H Q h => ?_
  obtain ⟨G, F, δ, d, δ', ok, ev, post⟩ := h
  obtain ⟨x, δ1, y', k, ea, eb, hd, rfl⟩ := cmp_ev ev
  exact two ok ea eb pc fun v u H2 F2 st sm ok2 r1 r2 => ⟨F2, x, y', k, r1.b, r2.b, hd, post _ H2 F2 st sm ok2 (relm (rel_bl k))⟩
theorem sndT_cmp {a b : E} {y z : Expr} {op : Cop} {o : CmpOp} {pos : Pos} (hu : X.A.units + 200 < cLine) (ho : copIs op o = true) (pc : (!isPk a || np b) = true) (ha : PE X y (tE X.K cx a)) (hb : PE X z (tE X.K cx b)) (hm : behindInMarks o z = false) :
    PT X (.Compare y [o] [z] pos) (tT X.K cx (.cmp op a b)) := by
  refine PT.imp (pt_cmpR (opC hu ho) ha hb hm) fun σ H Q h => ?_
  obtain ⟨G, F, δ, k, δ', ok, ev, post⟩ := h
  obtain ⟨x, δ1, y', ea, eb, hd⟩ := cmp_evT ev
  exact two ok ea eb pc fun v u H2 F2 st sm ok2 r1 r2 => ⟨F2, x, y', k, r1.b, r2.b, hd, k, rfl, post H2 F2 st sm ok2⟩
theorem rel_of {e : E} {H : Hp} {F : Addr → Prop} {d : D} {v : V} (n : (!isPk e) = true) (h : RelM (isPk e) K H F d v) : Rel K H F d v := by
  have e1 : isPk e = false := by simpa using n
  rw [e1] at h
  exact h
theorem snd_and {a b : E} {y z : Expr} {r : List Expr} {pos : Pos} (na : (!isPk a) = true) (nb : (!isPk b) = true) (ha : PE X y (tE X.K cx a)) (hb : PE X (.BoolOp .And (z :: r) pos) (tE X.K cx b)) : PE X (.BoolOp .And (y :: z :: r) pos) (tE X.K cx (.and a b)) := by
  refine PE.imp (pe_and ha hb) fun σ H Q h => ?_
  obtain ⟨G, F, δ, d, δ', ok, ev, post⟩ := h
  simp only [evE, Option.bind_eq_bind, Option.bind_eq_some_iff] at ev
  obtain ⟨⟨x, δ1⟩, ea, ev⟩ := ev
  refine ⟨G, F, δ, x, δ1, ok, ea, fun v H1 F1 st1 sm1 ok1 r1 => ?_⟩
  replace r1 := rel_of na r1
  have np1 : np (.and a b) = (np a && np b) := rfl
  cases x with
  | bl k =>
    unfold Rel at r1
    refine ⟨k, r1, ?_⟩
    cases k with
    | true =>
      rw [if_pos rfl]
      refine ⟨G, F1, δ1, d, δ', ok1, ev, fun u H2 F2 st2 sm2 ok2 r2 => post u H2 F2 (st1.trans st2) (fun n => ?_) ok2 (relm (rel_of nb r2))⟩
      rw [np1, Bool.and_eq_true] at n
      exact (sm1 n.1).trans (sm2 n.2)
    | false =>
      rw [if_neg Bool.false_ne_true]
      cases ev
      exact post _ H1 F1 st1 (fun n => by rw [np1, Bool.and_eq_true] at n; exact sm1 n.1) ok1 (relm (rel_bl false))
  | _ => cases ev
theorem snd_or {a b : E} {y z : Expr} {r : List Expr} {pos : Pos} (na : (!isPk a) = true) (nb : (!isPk b) = true) (ha : PE X y (tE X.K cx a)) (hb : PE X (.BoolOp .Or (z :: r) pos) (tE X.K cx b)) : PE X (.BoolOp .Or (y :: z :: r) pos) (tE X.K cx (.or a b)) := by
  refine PE.imp (pe_or ha hb) fun σ H Q h => ?_
  obtain ⟨G, F, δ, d, δ', ok, ev, post⟩ := h
  simp only [evE, Option.bind_eq_bind, Option.bind_eq_some_iff] at ev
  obtain ⟨⟨x, δ1⟩, ea, ev⟩ := ev
  refine ⟨G, F, δ, x, δ1, ok, ea, fun v H1 F1 st1 sm1 ok1 r1 => ?_⟩
  replace r1 := rel_of na r1
  have np1 : np (.or a b) = (np a && np b) := rfl
  cases x with
  | bl k =>
    unfold Rel at r1
    refine ⟨k, r1, ?_⟩
    cases k with
    | false =>
      rw [if_neg Bool.false_ne_true]
      refine ⟨G, F1, δ1, d, δ', ok1, ev, fun u H2 F2 st2 sm2 ok2 r2 => post u H2 F2 (st1.trans st2) (fun n => ?_) ok2 (relm (rel_of nb r2))⟩
      rw [np1, Bool.and_eq_true] at n
      exact (sm1 n.1).trans (sm2 n.2)
    | true =>
      rw [if_pos rfl]
      cases ev
      exact post _ H1 F1 st1 (fun n => by rw [np1, Bool.and_eq_true] at n; exact sm1 n.1) ok1 (relm (rel_bl true))
  | _ => cases ev
theorem snd_not {a : E} {y : Expr} {pos : Pos} (na : (!isPk a) = true) (ha : PE X y (tE X.K cx a)) : PE X (.UnaryOp .Not y pos) (tE X.K cx (.not a)) := by
  refine PE.imp (pe_not ha) fun σ H Q h => ?_
  obtain ⟨G, F, δ, d, δ', ok, ev, post⟩ := h
  simp only [evE, Option.bind_eq_bind, Option.bind_eq_some_iff] at ev
  obtain ⟨⟨x, δ1⟩, ea, ev⟩ := ev
  refine ⟨G, F, δ, x, δ1, ok, ea, fun v H1 F1 st1 sm1 ok1 r1 => ?_⟩
  replace r1 := rel_of na r1
  cases x with
  | bl k =>
    unfold Rel at r1
    cases ev
    exact ⟨k, r1, post _ H1 F1 st1 sm1 ok1 (relm (rel_bl _))⟩
  | _ => cases ev
theorem PT.pw {op : BoolOp} {vs : List Expr} {pos : Pos} {t : TT} (h : PT X (.BoolOp op vs pos) t) : PW X (.BoolOp op vs pos) t := fun _ pins s σ H Q I q => h pins s σ H Q I q
theorem sndT_and {a b : E} {y z : Expr} {r : List Expr} {pos : Pos} (ha : PT X y (tT X.K cx a)) (hb : PW X (.BoolOp .And (z :: r) pos) (tT X.K cx b)) : PT X (.BoolOp .And (y :: z :: r) pos) (tT X.K cx (.and a b)) := by
  refine PT.imp (pw_and ha hb).pt fun σ H Q h => ?_
  obtain ⟨G, F, δ, d, δ', ok, ev, post⟩ := h
  simp only [evT, Option.bind_eq_bind, Option.bind_eq_some_iff] at ev
  obtain ⟨⟨k, δ1⟩, ea, ev⟩ := ev
  have np1 : np (.and a b) = (np a && np b) := rfl
  refine ⟨G, F, δ, k, δ1, ok, ea, fun H1 F1 st1 sm1 ok1 => ?_⟩
  cases k with
  | true =>
    rw [if_pos rfl]
    refine ⟨G, F1, δ1, d, δ', ok1, ev, fun H2 F2 st2 sm2 ok2 => post H2 F2 (st1.trans st2) (fun n => ?_) ok2⟩
    rw [np1, Bool.and_eq_true] at n
    exact (sm1 n.1).trans (sm2 n.2)
  | false =>
    rw [if_neg Bool.false_ne_true]
    cases ev
    exact post H1 F1 st1 (fun n => by rw [np1, Bool.and_eq_true] at n; exact sm1 n.1) ok1
theorem sndT_or {a b : E} {y z : Expr} {r : List Expr} {pos : Pos} (ha : PT X y (tT X.K cx a)) (hb : PW X (.BoolOp .Or (z :: r) pos) (tT X.K cx b)) : PT X (.BoolOp .Or (y :: z :: r) pos) (tT X.K cx (.or a b)) := by
  refine PT.imp (pw_or ha hb).pt fun σ H Q h => ?_
  obtain ⟨G, F, δ, d, δ', ok, ev, post⟩ := h
  simp only [evT, Option.bind_eq_bind, Option.bind_eq_some_iff] at ev
  obtain ⟨⟨k, δ1⟩, ea, ev⟩ := ev
  have np1 : np (.or a b) = (np a && np b) := rfl
  refine ⟨G, F, δ, k, δ1, ok, ea, fun H1 F1 st1 sm1 ok1 => ?_⟩
  cases k with
  | false =>
    rw [if_neg Bool.false_ne_true]
    refine ⟨G, F1, δ1, d, δ', ok1, ev, fun H2 F2 st2 sm2 ok2 => post H2 F2 (st1.trans st2) (fun n => ?_) ok2⟩
    rw [np1, Bool.and_eq_true] at n
    exact (sm1 n.1).trans (sm2 n.2)
  | true =>
    rw [if_pos rfl]
    cases ev
    exact post H1 F1 st1 (fun n => by rw [np1, Bool.and_eq_true] at n; exact sm1 n.1) ok1
theorem sndT_not {a : E} {y : Expr} {pos : Pos} (ha : PT X y (tT X.K cx a)) : PT X (.UnaryOp .Not y pos) (tT X.K cx (.not a)) := by
  refine PT.imp (pt_not ha) fun σ H Q h => ?_
  obtain ⟨G, F, δ, d, δ', ok, ev, post⟩ := h
  simp only [evT, Option.bind_eq_bind, Option.bind_eq_some_iff] at ev
  obtain ⟨⟨k, δ1⟩, ea, ev⟩ := ev
  cases ev
  exact ⟨G, F, δ, k, δ1, ok, ea, fun H1 F1 st1 sm1 ok1 => post H1 F1 st1 sm1 ok1⟩
theorem snd_ite {c a b : E} {t y z : Expr} {pos : Pos} (na : (!isPk a) = true) (nb : (!isPk b) = true) (hc : PT X t (tT X.K cx c)) (ha : PE X y (tE X.K cx a)) (hb : PE X z (tE X.K cx b)) : PE X (.IfExp t y z pos) (tE X.K cx (.ite c a b)) := by
  refine PE.imp (pe_ifExp hc ha hb) fun σ H Q h => ?_
  obtain ⟨G, F, δ, d, δ', ok, ev, post⟩ := h
  simp only [evE, Option.bind_eq_bind, Option.bind_eq_some_iff] at ev
  obtain ⟨⟨k, δ1⟩, ea, ev⟩ := ev
  have np1 : np (.ite c a b) = (np c && np a && np b) := rfl
  refine ⟨G, F, δ, k, δ1, ok, ea, fun H1 F1 st1 sm1 ok1 => ?_⟩
  cases k with
  | true =>
    rw [if_pos rfl]
    refine ⟨G, F1, δ1, d, δ', ok1, ev, fun u H2 F2 st2 sm2 ok2 r2 => post u H2 F2 (st1.trans st2) (fun n => ?_) ok2 (relm (rel_of na r2))⟩
    rw [np1, Bool.and_eq_true, Bool.and_eq_true] at n
    exact (sm1 n.1.1).trans (sm2 n.1.2)
  | false =>
    rw [if_neg Bool.false_ne_true]
    refine ⟨G, F1, δ1, d, δ', ok1, ev, fun u H2 F2 st2 sm2 ok2 r2 => post u H2 F2 (st1.trans st2) (fun n => ?_) ok2 (relm (rel_of nb r2))⟩
    rw [np1, Bool.and_eq_true, Bool.and_eq_true] at n
    exact (sm1 n.1.1).trans (sm2 n.2)
theorem Ok.look {σ : L2.St} {G : Gh} {H : Hp} {F : Addr → Prop} {δ : Loc} (ok : Ok K G F σ H δ) {i : Nat} {d : D} (e : get δ i = some d) : ∃ v, σ[i]? = some (some v) ∧ RelB K H F d v ∧ ∃ F', Step G F H F' H ∧ Ok K G F' σ H (PP.demote δ i) ∧ Rel K H F' d v := by
  unfold get at e
  cases q : δ[i]? with
  | none => rw [q] at e; cases e
  | some s =>
    rw [q] at e
    cases s with
    | no => cases e
    | fnc _ _ => cases e
    | val d' =>
      cases e
      obtain ⟨v, e1, r⟩ := ok.sl i _ q
      refine ⟨v, e1, .inl r, F, Step.refl, ?_, r⟩
      unfold PP.demote; rw [q]; exact ok
    | own ds =>
      cases e
      obtain ⟨a, xs, e1, h1, h2, h3, h4⟩ := ok.sl i _ q
      obtain ⟨o1, o2⟩ := ok.demote q e1
      refine ⟨.ref a, e1, .inr ⟨a, xs, ds, rfl, rfl, h3, h4⟩, fun b => F b ∧ b ≠ a, ⟨fun _ _ _ z _ => z, fun b z => .inl z.1, fun b o r z e => ⟨⟨z, fun w => h2.2 (by rw [← w]; exact r)⟩, e⟩, fun _ ps e => ⟨ps, e⟩⟩, ?_, o2⟩
      unfold PP.demote; rw [q]; exact o1
theorem snd_var {i : Nat} {x : Str} {pos : Pos} (hN : X.N[i]? = some x) (hv : Vis X.env.scope x) (hd : (x == ("__debug__" : Str)) = false) (hcd : (x == ("__classdict__" : Str)) = false) : PE X (.Name x pos) (tE X.K cx (.var i)) := by
  refine PE.imp (pe_var hN hv hd hcd) fun σ H Q h => ?_
  obtain ⟨G, F, δ, d, δ', ok, ev, post⟩ := h
  simp only [evE, Option.bind_eq_bind, Option.bind_eq_some_iff] at ev
  obtain ⟨d', e1, e⟩ := ev
  cases e
  obtain ⟨v, ev, _, F', st, ok', r⟩ := ok.look e1
  exact ⟨v, ev, post v H F' st (fun _ => Sim.refl H) ok' (relm r)⟩
theorem snd_pk {i : Nat} {x : Str} {pos : Pos} (hN : X.N[i]? = some x) (hv : Vis X.env.scope x) (hd : (x == ("__debug__" : Str)) = false) (hcd : (x == ("__classdict__" : Str)) = false) : PE X (.Name x pos) (tE X.K cx (.pk i)) := by
  refine PE.imp (pe_var hN hv hd hcd) fun σ H Q h => ?_
  obtain ⟨G, F, δ, d, δ', ok, ev, post⟩ := h
  simp only [evE, Option.bind_eq_bind, Option.bind_eq_some_iff] at ev
  obtain ⟨d', e1, e⟩ := ev
  cases e
  obtain ⟨v, ev, rb, _⟩ := ok.look e1
  exact ⟨v, ev, post v H F Step.refl (fun _ => Sim.refl H) ok rb⟩
theorem tru_of {H : Hp} {F : Addr → Prop} {d : D} {v : V} {k : Bool} (r : RelB K H F d v) (e : tv d = some k) : TruV K v H k := by
  cases d with
  | non => cases e; rcases r with r | ⟨_, _, _, z, _⟩; (unfold Rel at r; subst r; rfl); cases z
  | bl b => cases e; have := r.bl; subst this; rfl
  | int i => cases e; have := r.int; subst this; rfl
  | str x =>
    change (if x.length ≤ sizeLine then some ((x.length : Int) != 0) else none) = some k at e
    split at e
    · cases e; have := r.str; subst this; exact ⟨‹_›, rfl⟩
    · cases e
  | lst ds =>
    cases e
    obtain ⟨a, xs, rfl, h1, h2⟩ := r.lst
    refine .inl ⟨xs, h1.sq, ?_⟩
    have := h2.length
    cases ds <;> cases xs <;> first | rfl | (simp at this)
  | tup ds =>
    cases e
    obtain ⟨a, xs, rfl, h1, h2⟩ := r.tup
    refine .inr (.inl ⟨xs, h1, ?_⟩)
    have := h2.length
    cases ds <;> cases xs <;> first | rfl | (simp at this)
  | fn _ _ => cases e
theorem sndT_var {i : Nat} {x : Str} {pos : Pos} {e : E} (he : e = .var i ∨ e = .pk i) (hN : X.N[i]? = some x) (hv : Vis X.env.scope x) (hd : (x == ("__debug__" : Str)) = false) (hcd : (x == ("__classdict__" : Str)) = false) : PT X (.Name x pos) (tT X.K cx e) := by
  refine PT.imp (pt_truth (pe_var hN hv hd hcd) fun _ => rfl) fun σ H Q h => ?_
  obtain ⟨G, F, δ, k, δ', ok, ev, post⟩ := h
  have ev' : ∃ d, get δ i = some d ∧ tv d = some k ∧ δ = δ' := by
    rcases he with rfl | rfl
    · simp only [evT, Option.bind_eq_bind, Option.bind_eq_some_iff] at ev
      obtain ⟨d, e1, k', e2, e⟩ := ev
      cases e
      exact ⟨d, e1, e2, rfl⟩
    · simp only [evT, Option.bind_eq_bind, Option.bind_eq_some_iff] at ev
      obtain ⟨d, e1, k', e2, e⟩ := ev
      cases e
      exact ⟨d, e1, e2, rfl⟩
  obtain ⟨d, e1, e2, rfl⟩ := ev'
  obtain ⟨v, ev, rb, _⟩ := ok.look e1
  exact ⟨v, ev, k, tru_of rb e2, post H F Step.refl (fun _ => Sim.refl H) ok⟩
theorem snd_int {i : Int} {j : Nat} {pos : Pos} : PE X (.Constant (.int i) j pos) (tE X.K cx (.int i)) :=
  PE.imp pe_int fun σ H Q ⟨G, F, δ, d, δ', ok, ev, post⟩ => by cases ev; exact post _ H F Step.refl (fun _ => Sim.refl H) ok (relm (rel_int i))
theorem snd_bl {i : Bool} {j : Nat} {pos : Pos} : PE X (.Constant (.bool i) j pos) (tE X.K cx (.bl i)) :=
  PE.imp pe_bl fun σ H Q ⟨G, F, δ, d, δ', ok, ev, post⟩ => by cases ev; exact post _ H F Step.refl (fun _ => Sim.refl H) ok (relm (rel_bl i))
theorem snd_str {i : Str} {j : Nat} {pos : Pos} : PE X (.Constant (.str i) j pos) (tE X.K cx (.str i)) :=
  PE.imp pe_str fun σ H Q ⟨G, F, δ, d, δ', ok, ev, post⟩ => by cases ev; exact post _ H F Step.refl (fun _ => Sim.refl H) ok (relm (rel_str i))
theorem snd_non {j : Nat} {pos : Pos} : PE X (.Constant .none j pos) (tE X.K cx .non) :=
  PE.imp pe_non fun σ H Q ⟨G, F, δ, d, δ', ok, ev, post⟩ => by cases ev; exact post _ H F Step.refl (fun _ => Sim.refl H) ok (relm rel_non)
theorem snd_glob {g : Nat} {x : Str} {u : Value} {v : V} {pos : Pos} (hg : Gl X x) (hm : X.mg x = some u) (r : RelV v u) (hr : ∀ d, cx.gl[g]? = some d → ∀ H F, Rel X.K H F d v) (hd : (x == ("__debug__" : Str)) = false) : PE X (.Name x pos) (tE X.K cx (.glob g)) := by
  refine PE.imp (pe_glob hg hm r hd) fun σ H Q h => ?_
  obtain ⟨G, F, δ, d, δ', ok, ev, post⟩ := h
  simp only [evE, Option.bind_eq_bind, Option.bind_eq_some_iff] at ev
  obtain ⟨d', e1, e⟩ := ev
  cases e
  exact post v H F Step.refl (fun _ => Sim.refl H) ok (relm (hr d e1 H F))
theorem snd_neg {a : E} {y : Expr} {pos : Pos} (n : (!isPk a) = true) (ha : PE X y (tE X.K cx a)) : PE X (.UnaryOp .USub y pos) (tE X.K cx (.neg a)) := by
  refine PE.imp (pe_un un_neg ha) fun σ H Q h => ?_
  obtain ⟨G, F, δ, d, δ', ok, ev, post⟩ := h
  simp only [evE, Option.bind_eq_bind, Option.bind_eq_some_iff] at ev
  obtain ⟨⟨x, δ1⟩, ea, ev⟩ := ev
  cases x with
  | int i =>
    cases ev
    refine ⟨G, F, δ, _, _, ok, ea, fun v H1 F1 st sm ok1 r => ?_⟩
    have := r.b.int
    subst this
    exact ⟨i, rfl, post _ H1 F1 st sm ok1 (relm (rel_int _))⟩
  | _ => cases ev
theorem snd_fstr {a : E} {t : Str} {y : Expr} {k : Nat} {p1 p2 pos : Pos} (n : (!isPk a) = true) (ha : PE X y (tE X.K cx a)) : PE X (.JoinedStr [.Constant (.str t) k p1, .FormattedValue y (-1) none p2] pos) (tE X.K cx (.fstr t a)) := by
  intro pins s σ H Q I h
  obtain ⟨G, F, δ, d, δ', ok, ev, post⟩ := h
  simp only [evE, Option.bind_eq_bind, Option.bind_eq_some_iff] at ev
  obtain ⟨⟨x, δ1⟩, ea, ev⟩ := ev
  cases x with
  | int i =>
    dsimp only at ev
    split at ev
    · rename_i hh
      cases ev
      have e0 : Str.empty ++ t = t := by
        show (⟨#[] ++ t.cps⟩ : Str) = t
        simp
      have l0 : t.length ≤ sizeLine := by have := hh.2; omega
      refine JoinedStr_many (joinParts_cons (Calls.Constant_str ?_))
      show (Str.empty ++ t).length ≤ sizeLine ∧ _
      rw [e0]
      refine ⟨l0, joinParts_cons (FormattedValue_plain (thn (ha pins _ σ H (fun v H1 => v = .int i ∧ Q (.str (t ++ toString i)) H1) (I.tok _) ⟨G, F, δ, .int i, _, ok, ea, fun v H1 F1 st sm ok1 r => ⟨r.b.int, post _ H1 F1 st sm ok1 (relm (rel_str _))⟩⟩) fun u s1 z => ?_))⟩
      obtain ⟨v, H1, I1, rv, rfl, q⟩ := z
      obtain ⟨k1, rfl⟩ : ∃ k1, u = .int i k1 := rv
      have l1 : (t ++ (toString i : Str)).length ≤ sizeLine := by rw [strLen_append]; exact hh.2
      refine wpAny_formatField_int hh.1 ⟨l1, joinParts_nil ⟨_, H1, ?_, ?_, q⟩ l1⟩
      · exact (I1.tok _).tok _
      · exact ⟨_, rfl⟩
    · cases ev
  | _ => cases ev
end
end PP
end
section
namespace PP
open PySem L2 PyProof.Rows
variable [Tbs]
section
variable {K : PySem.W.Frag} {cx : Cl} {X : Cx}
theorem snd_nil : PA X [] (tEs X.K cx .nil) := by
  refine fun pos pins s σ H Q I h => pa_nil pos pins s σ H Q I ?_
  obtain ⟨G, F, δ, ds, δ', ok, ev, post⟩ := h
  simp only [evEs] at ev
  cases ev
  exact post [] H F Step.refl (fun _ => Sim.refl H) ok ⟨rfl, rfl⟩
theorem snd_cons {a : E} {es : Es} {y : Expr} {ys : List Expr} (pc : (!isPk a || npS es) = true) (ha : PE X y (tE X.K cx a)) (hr : PA X ys (tEs X.K cx es)) (hs : starEach (y :: ys) X.env = (false, eval y X.env) :: starEach ys X.env) : PA X (y :: ys) (tEs X.K cx (.cons a es)) := by
  refine fun pos pins s σ H Q I h => pa_cons ha hr hs pos pins s σ H Q I ?_
  obtain ⟨G, F, δ, ds, δ', ok, ev, post⟩ := h
  simp only [evEs, Option.bind_eq_bind, Option.bind_eq_some_iff] at ev
  obtain ⟨⟨x, δ1⟩, ea, ⟨ds', δ2⟩, eb, e⟩ := ev
  cases e
  refine ⟨G, F, δ, x, δ1, ok, ea, fun v H1 F1 st1 sm1 ok1 r1 => ⟨G, F1, δ1, ds', δ2, ok1, eb, fun vs H2 F2 st2 sm2 ok2 r2 => ?_⟩⟩
  refine post (v :: vs) H2 F2 (st1.trans st2) (fun z => ?_) ok2 ⟨x, ds', v, vs, rfl, rfl, RelM.step ok1.fd st2 (fun z => sm2 (by rw [z] at pc; simpa using pc)) r1, r2⟩
  have z' : (np a && npS es) = true := z
  rw [Bool.and_eq_true] at z'
  exact (sm1 z'.1).trans (sm2 z'.2)
theorem RelML.rl {H : Hp} {F : Addr → Prop} : ∀ {es : Es} {ds : List D} {vs : List V}, noPk es = true → RelML K H F es ds vs → RelL K H F ds vs
  | .nil, ds, vs, _, h => by obtain ⟨rfl, rfl⟩ := h; exact RelL.nil
  | .cons e es, ds, vs, n, h => by
    obtain ⟨d, ds', v, vs', rfl, rfl, h1, h2⟩ := h
    have n' : (!isPk e && noPk es) = true := n
    rw [Bool.and_eq_true] at n'
    exact RelL.cons (rel_of n'.1 h1) (RelML.rl n'.2 h2)
noncomputable def RelBL (K : PySem.W.Frag) (H : Hp) (F : Addr → Prop) : List D → List V → Prop
  | [], vs => vs = []
  | d :: ds, vs => ∃ v vs', vs = v :: vs' ∧ RelB K H F d v ∧ RelBL K H F ds vs'
theorem RelML.bl {H : Hp} {F : Addr → Prop} : ∀ {es : Es} {ds : List D} {vs : List V}, RelML K H F es ds vs → RelBL K H F ds vs
  | .nil, ds, vs, h => by obtain ⟨rfl, rfl⟩ := h; rfl
  | .cons e es, ds, vs, h => by
    obtain ⟨d, ds', v, vs', rfl, rfl, h1, h2⟩ := h
    exact ⟨v, vs', rfl, h1.b, RelML.bl h2⟩
theorem es_ev {f : List D → Option D} {es : Es} {δ δ' : Loc} {d : D} (ev : (do let (ds, δ1) ← evEs cx es δ; return (← f ds, δ1)) = some (d, δ')) : ∃ ds, evEs cx es δ = some (ds, δ') ∧ f ds = some d := by
  simp only [Option.bind_eq_bind, Option.bind_eq_some_iff] at ev
  obtain ⟨⟨ds, δ1⟩, ea, d', hd, e⟩ := ev
  cases e
  exact ⟨ds, ea, hd⟩
theorem snd_tup {es : Es} {xs : List Expr} {k : Nat} {pos : Pos} (n : noPk es = true) (h : PA X xs (tEs X.K cx es)) : PE X (.Tuple xs k pos) (tE X.K cx (.tup es)) := by
  refine PE.imp (pe_tup h) fun σ H Q h => ?_
  obtain ⟨G, F, δ, d, δ', ok, ev, post⟩ := h
  simp only [evE, Option.bind_eq_bind, Option.bind_eq_some_iff] at ev
  obtain ⟨⟨ds, δ1⟩, ea, ev⟩ := ev
  split at ev
  · rename_i hz
    cases ev
    refine ⟨G, F, δ, ds, δ1, ok, ea, fun vs H1 F1 st1 sm1 ok1 r1 => ?_⟩
    have r := r1.rl n
    refine ⟨by rw [r.length]; exact hz, fun p hp => ?_⟩
    obtain ⟨o1, o2, o3, o4⟩ := ok1.laid hp (.tup vs)
    exact post _ _ _ (st1.trans o2) (fun z => (sm1 z).trans o3) o1 (relm (rel_newTup ok1 hp r))
  · cases ev
theorem snd_lst {es : Es} {xs : List Expr} {pos : Pos} (n : noPk es = true) (h : PA X xs (tEs X.K cx es)) : PE X (.List xs pos) (tE X.K cx (.lst es)) := by
  refine PE.imp (pe_lst h) fun σ H Q h => ?_
  obtain ⟨G, F, δ, d, δ', ok, ev, post⟩ := h
  simp only [evE, Option.bind_eq_bind, Option.bind_eq_some_iff] at ev
  obtain ⟨⟨ds, δ1⟩, ea, ev⟩ := ev
  split at ev
  · rename_i hz
    cases ev
    refine ⟨G, F, δ, ds, δ1, ok, ea, fun vs H1 F1 st1 sm1 ok1 r1 => ?_⟩
    have r := r1.rl n
    refine ⟨by rw [r.length]; exact hz, fun p hp => ?_⟩
    obtain ⟨o1, o2, o3, o4⟩ := ok1.laid hp (.lst vs)
    exact post _ _ _ (st1.trans o2) (fun z => (sm1 z).trans o3) o1 (relm (rel_newLst ok1 hp r))
  · cases ev
theorem RelL.at {H : Hp} {F : Addr → Prop} {ds : List D} {xs : List V} {i : Int} {d : D} (h : RelL K H F ds xs) (e : atI ds i = some d) : ∃ v, atI xs i = some v ∧ Rel K H F d v := by
  unfold atI at e ⊢
  rw [h.length]
  cases q : ixN ds.length i with
  | none => rw [q] at e; cases e
  | some j =>
    rw [q] at e
    exact h.get e
theorem snd_ix {a b : E} {y z : Expr} {pos : Pos} (pc : (!isPk a || np b) = true) (ha : PE X y (tE X.K cx a)) (hb : PE X z (tE X.K cx b)) (hp : PlainIx z) : PE X (.Subscript y z pos) (tE X.K cx (.ix a b)) := by
  refine PE.imp (pe_ix ix_seq ha hb hp) fun σ H Q h => ?_
  obtain ⟨G, F, δ, d, δ', ok, ev, post⟩ := h
  simp only [evE, Option.bind_eq_bind, Option.bind_eq_some_iff] at ev
  obtain ⟨⟨x, δ1⟩, ea, ⟨y', δ2⟩, eb, d', hd, e⟩ := ev
  cases e
  dsimp only at eb hd post
  refine two ok ea eb pc fun v u H2 F2 st sm ok2 r1 r2 => ?_
  unfold ixD at hd
  split at hd
  · have e2 := r2.b.int
    obtain ⟨p, xs, e1, h1, h2⟩ := r1.b.lst
    obtain ⟨w, hw, rw'⟩ := h2.at hd
    exact .inl ⟨p, xs, _, w, e1, e2, h1.sq, hw, post _ _ _ st sm ok2 (relm rw')⟩
  · have e2 := r2.b.int
    obtain ⟨p, xs, e1, h1, h2⟩ := r1.b.tup
    obtain ⟨w, hw, rw'⟩ := h2.at hd
    exact .inr (.inl ⟨p, xs, _, w, e1, e2, h1, hw, post _ _ _ st sm ok2 (relm rw')⟩)
  · have e2 := r2.b.int
    have e1 := r1.b.str
    split at hd
    · rename_i hz
      rw [Option.map_eq_some_iff] at hd
      obtain ⟨c, hc, rfl⟩ := hd
      exact .inr (.inr ⟨_, _, c, e1, e2, hz, hc, post _ _ _ st sm ok2 (relm (rel_str _))⟩)
    · cases hd
  · cases hd
theorem snd_o {o : Eo} {l : Option Expr} (h : ∀ e, o = .yes e → ∃ y, l = some y ∧ (!isPk e) = true ∧ PE X y (tE X.K cx e)) (hn : o = .no → l = none) : PO X l (tO X.K cx o) := by
  cases o with
  | no =>
    rw [hn rfl]
    intro pins s σ H Q I q
    refine po_none pins s σ H Q I ?_
    obtain ⟨G, F, δ, d, δ', ok, ev, post⟩ := q
    simp only [evO] at ev
    cases ev
    exact post H F Step.refl (fun _ => Sim.refl H) ok
  | yes e =>
    obtain ⟨y, rfl, n, hy⟩ := h e rfl
    intro pins s σ H Q I q
    refine po_some hy pins s σ H Q I ?_
    obtain ⟨G, F, δ, d, δ', ok, ev, post⟩ := q
    simp only [evO, Option.bind_eq_bind, Option.bind_eq_some_iff] at ev
    obtain ⟨⟨x, δ1⟩, ea, ev⟩ := ev
    cases x with
    | int i =>
      cases ev
      exact ⟨G, F, δ, .int i, δ', ok, ea, fun v H1 F1 st1 sm1 ok1 r1 => ⟨i, by have := rel_of n r1; unfold Rel at this; exact this, post H1 F1 st1 sm1 ok1⟩⟩
    | _ => cases ev
theorem snd_sl {a : E} {lo hi : Eo} {y : Expr} {l h : Option Expr} {pos p2 : Pos} (pc : (!isPk a || (npO lo && npO hi)) = true) (ha : PE X y (tE X.K cx a)) (hl : PO X l (tO X.K cx lo)) (hh : PO X h (tO X.K cx hi)) : PE X (.Subscript y (.Slice l h none p2) pos) (tE X.K cx (.sl a lo hi)) := by
  refine PE.imp (pe_slice (sl_list.or sl_tup) ha hl hh) fun σ H Q h => ?_
  obtain ⟨G, F, δ, d, δ', ok, ev, post⟩ := h
  simp only [evE, Option.bind_eq_bind, Option.bind_eq_some_iff] at ev
  obtain ⟨⟨x, δ1⟩, ea, ⟨l', δ2⟩, eb, ⟨h', δ3⟩, ec, d', hd, e⟩ := ev
  cases e
  dsimp only at eb ec hd post
  refine ⟨G, F, δ, x, δ1, ok, ea, fun v H1 F1 st1 sm1 ok1 r1 => ⟨G, F1, δ1, l', δ2, ok1, eb, fun H2 F2 st2 sm2 ok2 => ⟨G, F2, δ2, h', δ3, ok2, ec, fun H3 F3 st3 sm3 ok3 => ?_⟩⟩⟩
  have st := st2.trans st3
  have rb : RelB X.K H3 F3 x v := by
    refine (RelM.step ok1.fd st (fun z => ?_) r1).b
    rw [z] at pc
    have pc' : (npO lo && npO hi) = true := by simpa using pc
    rw [Bool.and_eq_true] at pc'
    exact (sm2 pc'.1).trans (sm3 pc'.2)
  have fin : ∀ w H4, Same H3 H4 → Ok X.K G F3 σ H4 δ3 → Rel X.K H4 F3 d w → Q w H4 := fun w H4 s4 o4 r4 => post w H4 F3 ((st1.trans st).trans (Step.of_same s4)) (fun z => by
    have z' : (np a && npO lo && npO hi) = true := z
    rw [Bool.and_eq_true, Bool.and_eq_true] at z'
    exact (((sm1 z'.1.1).trans (sm2 z'.1.2)).trans (sm3 z'.2)).trans (.of s4)) o4 (relm r4)
  unfold slD at hd
  split at hd
  · cases hd
    obtain ⟨p, xs, e1, h1, h2⟩ := rb.lst
    refine .inl ⟨p, xs, e1, h1.sq, fun q hq => ?_⟩
    obtain ⟨o1, o2, o3, o4⟩ := ok3.laid hq (.lst (cutV xs l' h'))
    exact fin _ _ (same_new hq _) o1 (rel_newLst ok3 hq (h2.cut l' h'))
  · split at hd
    · cases hd
    · rename_i hw
      cases hd
      obtain ⟨p, xs, e1, h1, h2⟩ := rb.tup
      refine .inr ⟨p, xs, e1, h1, by rw [h2.length]; exact hw, fun q hq => ?_⟩
      obtain ⟨o1, o2, o3, o4⟩ := ok3.laid hq (.tup (cutV xs l' h'))
      exact fin _ _ (same_new hq _) o1 (rel_newTup ok3 hq (h2.cut l' h'))
  · cases hd
noncomputable def spF (K : PySem.W.Frag) (f : List D → Option D) : Sp := fun vs H Q _ => ∃ F ds d, FD F H ∧ TF F ∧ Tabs H ∧ RelL K H F ds vs ∧ f ds = some d ∧ ∀ v H', Sim H H' → Tabs H' → Rel K H' F d v → Q v H'
theorem snd_call {f : Nat} {es : Es} {x : Str} {y : Expr} {ys : List Expr} {k : Nat} {a : Addr} {fd : FuncData} {ps : List Str} {p pos : Pos} (n : noPk es = true) (fn : FnOk X.prog X.w X.K X.mg X.base CX0 k a fd ps (spF X.K (cx.call f))) (hr : Room k X.A) (hg : Gl X x)
    (hm : X.mg x = some (.ref a)) (hk : PySem.W.keepIn X.K (.ref a) = true) (hb : Binds X.K fd ps []) (hA : PA X (y :: ys) (tEs X.K cx es)) (hd : (x == ("__debug__" : Str)) = false) (he : starEach (y :: ys) X.env = (false, eval y X.env) :: starEach ys X.env) (hpl : (backTo pos (starEach ys X.env)).any (·.1) = false) :
    PE X (.Call (.Name x p) (y :: ys) [] pos) (tE X.K cx (.call f es)) := by
  refine PE.imp (pe_call fn hr hg hm hk hb .nil (pass0) hA hd he hpl) fun σ H Q h => ?_
  obtain ⟨G, F, δ, d, δ', ok, ev, post⟩ := h
  simp only [evE] at ev
  obtain ⟨ds, ea, hd⟩ := es_ev ev
  refine ⟨G, F, δ, ds, δ', ok, ea, fun vs H1 F1 st1 sm1 ok1 r1 => ?_⟩
  show spF X.K (cx.call f) (vs ++ []) H1 Q E0
  rw [List.append_nil]
  exact ⟨F1, ds, d, ok1.fd, ok1.tf, ok1.tabs, r1.rl n, hd, fun v H2 s2 t2 r2 => post v H2 F1 (st1.trans (ok1.call s2 t2).2) (fun z => (sm1 z).trans s2) (ok1.call s2 t2).1 (relm r2)⟩
theorem sndT_of {e : E} {x : Expr} {es : Es} {f : List D → Option D} (hE : PE X x (tE X.K cx e)) (he : ∀ whole, isTrue x X.env whole = (do let v ← whole; standAt x.pos; holding [v] (truthy v))) (n : isPk e = false)
    (e1 : ∀ δ, evE cx e δ = (do let (ds, δ1) ← evEs cx es δ; return (← f ds, δ1))) (e2 : ∀ δ, evT cx e δ = (do let (ds, δ1) ← evEs cx es δ; let d ← f ds; return (← tv d, δ1))) : PT X x (tT X.K cx e) := by
  refine PT.imp (pt_truth hE he) fun σ H Q h => ?_
  obtain ⟨G, F, δ, k, δ', ok, ev, post⟩ := h
  rw [e2] at ev
  simp only [Option.bind_eq_bind, Option.bind_eq_some_iff] at ev
  obtain ⟨⟨ds, δ1⟩, ea, d, hd, k', hk, e⟩ := ev
  cases e
  refine ⟨G, F, δ, d, δ1, ok, ?_, fun v H1 F1 st1 sm1 ok1 r1 => ⟨k, tru_of r1.b hk, post H1 F1 st1 sm1 ok1⟩⟩
  rw [e1]
  simp only [Option.bind_eq_bind, Option.bind_eq_some_iff]
  exact ⟨(ds, δ1), ea, d, hd, rfl⟩
noncomputable def rB (K : PySem.W.Frag) (f : List D → Option D) : List V → Hp → VK → Prop := fun xs H Q => ∃ F ds d, FD F H ∧ RelBL K H F ds xs ∧ f ds = some d ∧ ∀ v H', Same H H' → Rel K H' F d v → Q v H'
theorem CallR.imp {f : Value} {r r' : List V → Hp → VK → Prop} (h : CallR X f r) (w : ∀ xs H Q, r' xs H Q → r xs H Q) : CallR X f r' := fun pins s σ H xs us Q I rv q => h pins s σ H xs us Q I rv (w _ _ _ q)
theorem b1 {H : Hp} {F : Addr → Prop} {d : D} {xs : List V} (h : RelBL K H F [d] xs) : ∃ v, xs = [v] ∧ RelB K H F d v := by
  obtain ⟨v, vs, rfl, h1, h2⟩ := h
  cases h2
  exact ⟨v, rfl, h1⟩
theorem b2 {H : Hp} {F : Addr → Prop} {d e : D} {xs : List V} (h : RelBL K H F [d, e] xs) : ∃ v u, xs = [v, u] ∧ RelB K H F d v ∧ RelB K H F e u := by
  obtain ⟨v, vs, rfl, h1, u, us, rfl, h2, h3⟩ := h
  cases h3
  exact ⟨v, u, rfl, h1, h2⟩
theorem not_F {F : Addr → Prop} {H : Hp} {p : Addr} (fd : FD F H) (hp : H p = none) : ¬ F p := fun z => by rcases fd p z with ⟨xs, e⟩ | ⟨xs, e, _⟩ | ⟨xs, e⟩ <;> (rw [hp] at e; cases e)
theorem cb_len : CallR X (.builtin "len") (rB X.K lenD) := by
  refine CallR.imp (call_len_seq.or call_len_str) fun xs H Q ⟨F, ds, d, fd, r, e, q⟩ => ?_
  unfold lenD at e
  split at e
  · split at e
    · cases e
      obtain ⟨v, rfl, rv⟩ := b1 r
      exact .inr ⟨_, by rw [rv.str], ‹_›, q _ _ (Same.refl H) (rel_int _)⟩
    · cases e
  · cases e
    obtain ⟨v, rfl, rv⟩ := b1 r
    obtain ⟨a, ys, rfl, h1, h2⟩ := rv.lst
    exact .inl ⟨a, ys, rfl, .inl h1.sq, by rw [h2.length]; exact q _ _ (Same.refl H) (rel_int _)⟩
  · cases e
    obtain ⟨v, rfl, rv⟩ := b1 r
    obtain ⟨a, ys, rfl, h1, h2⟩ := rv.tup
    exact .inl ⟨a, ys, rfl, .inr h1, by rw [h2.length]; exact q _ _ (Same.refl H) (rel_int _)⟩
  · cases e
theorem call_intS : CallR X (.type "int") (fun xs H Q => ∃ x n, xs = [.str x] ∧ PySem.intText? x = some n ∧ x.length ≤ 640 ∧ Q (.int n) H) := by
  intro pins s σ H xs us Q I rv h
  obtain ⟨x, n, rfl, h1, h2, q⟩ := h
  obtain ⟨u, rfl, ru⟩ := rv.one
  obtain ⟨t, rfl⟩ := ru
  exact PySem.W.KIN.call_text h1 h2 ⟨.int n, H, I.tok _, ⟨_, rfl⟩, q⟩
theorem cb_int : CallR X (.type "int") (rB X.K toIntD) := by
  refine CallR.imp (call_int1.or call_intS) fun xs H Q ⟨F, ds, d, fd, r, e, q⟩ => ?_
  unfold toIntD at e
  split at e
  · cases e
    obtain ⟨v, rfl, r1⟩ := b1 r
    exact .inl (.inl ⟨_, by rw [r1.int], q _ _ (Same.refl H) (rel_int _)⟩)
  · cases e
    obtain ⟨v, rfl, r1⟩ := b1 r
    exact .inl (.inr ⟨_, by rw [r1.bl], q _ _ (Same.refl H) (rel_int _)⟩)
  · split at e
    · rw [Option.map_eq_some_iff] at e
      obtain ⟨n, e1, rfl⟩ := e
      obtain ⟨v, rfl, r1⟩ := b1 r
      exact .inr ⟨_, n, by rw [r1.str], e1, ‹_›, q _ _ (Same.refl H) (rel_int _)⟩
    · cases e
  · cases e
theorem cb_str : CallR X (.type "str") (rB X.K toStrD) := by
  refine CallR.imp call_str_int fun xs H Q ⟨F, ds, d, fd, r, e, q⟩ => ?_
  unfold toStrD at e
  split at e
  · split at e
    · cases e
      obtain ⟨v, rfl, r1⟩ := b1 r
      exact ⟨_, by rw [r1.int], ‹_›, q _ _ (Same.refl H) (rel_str _)⟩
    · cases e
  · cases e
theorem step0 {F : Addr → Prop} {H H' : Hp} (h : Same H H') : Step g0 F H F H' := Step.of_same h
theorem cb_tup : CallR X (.type "tuple") (rB X.K toTupD) := by
  refine CallR.imp call_tuple_of fun xs H Q ⟨F, ds, d, fd, r, e, q⟩ => ?_
  unfold toTupD at e
  split at e
  · cases e
    obtain ⟨v, rfl, r1⟩ := b1 r
    obtain ⟨a, ys, rfl, h1, h2⟩ := r1.lst
    refine ⟨a, ys, rfl, .inl ⟨h1.sq, fun l hl => q _ _ (same_new hl _) ?_⟩⟩
    unfold Rel
    exact ⟨l, ys, rfl, SqT.of upd_same, RelL.step fd (step0 (same_new hl _)) _ _ h2⟩
  · cases e
    obtain ⟨v, rfl, r1⟩ := b1 r
    obtain ⟨a, ys, rfl, h1, h2⟩ := r1.tup
    refine ⟨a, ys, rfl, .inr ⟨h1, q _ _ (Same.refl H) ?_⟩⟩
    unfold Rel
    exact ⟨a, ys, rfl, h1, h2⟩
  · cases e
theorem cb_lst : CallR X (.type "list") (rB X.K toLstD) := by
  refine CallR.imp call_list_of fun xs H Q ⟨F, ds, d, fd, r, e, q⟩ => ?_
  unfold toLstD at e
  split at e
  · cases e
    obtain ⟨v, rfl, r1⟩ := b1 r
    obtain ⟨a, ys, rfl, h1, h2⟩ := r1.lst
    refine ⟨a, ys, rfl, .inl h1.sq, fun l hl => q _ _ (same_new hl _) ?_⟩
    unfold Rel
    exact ⟨l, ys, rfl, .inl ⟨.inl upd_same, not_F fd hl⟩, RelL.step fd (step0 (same_new hl _)) _ _ h2⟩
  · cases e
    obtain ⟨v, rfl, r1⟩ := b1 r
    obtain ⟨a, ys, rfl, h1, h2⟩ := r1.tup
    refine ⟨a, ys, rfl, .inr h1, fun l hl => q _ _ (same_new hl _) ?_⟩
    unfold Rel
    exact ⟨l, ys, rfl, .inl ⟨.inl upd_same, not_F fd hl⟩, RelL.step fd (step0 (same_new hl _)) _ _ h2⟩
  · cases e
theorem intsD_rel {H : Hp} {F : Addr → Prop} : ∀ {ds : List D} {ns : List Int} {xs : List V}, intsD ds = some ns → RelL K H F ds xs → xs = ns.map V.int
  | [], ns, xs, e, r => by cases e; unfold RelL at r; exact r
  | d :: ds, ns, xs, e, r => by
    unfold RelL at r
    obtain ⟨y, ys, rfl, h1, h2⟩ := r
    cases d with
    | int i =>
      unfold intsD at e
      rw [Option.map_eq_some_iff] at e
      obtain ⟨ms, e, rfl⟩ := e
      unfold Rel at h1
      rw [h1, intsD_rel e h2, List.map_cons]
    | _ => cases e
theorem cb_max (hc : X.calm = true) : CallR X (.builtin "max") (rB X.K maxD) := by
  intro pins s σ H xs us Q I rv ⟨F, ds, d, fd, r, e, q⟩
  unfold maxD at e
  split at e
  · cases e
    obtain ⟨v, u, rfl, r1, r2⟩ := b2 r
    exact call_max2 hc pins s σ H _ us Q I rv ⟨_, _, by rw [r1.int, r2.int], q _ _ (Same.refl H) (rel_int _)⟩
  · rw [Option.bind_eq_some_iff] at e
    obtain ⟨ns, e, e'⟩ := e
    split at e'
    · cases e'
    · rename_i hne
      cases e'
      obtain ⟨v, rfl, r1⟩ := b1 r
      obtain ⟨a, ys, rfl, h1, h2⟩ := r1.lst
      rw [intsD_rel e h2] at h1
      exact call_maxL hc pins s σ H _ us Q I rv ⟨a, ns, rfl, hne, h1.sq, q _ _ (Same.refl H) (rel_int _)⟩
  · cases e
theorem snd_blt {f : Blt} {es : Es} {x : Str} {p pos : Pos} {xs : List Expr} (g : List D → Option D) (hg : bltD f = g) (h : PE X (.Call (.Name x p) xs [] pos) (tCB (rB X.K g) (tEs X.K cx es))) : PE X (.Call (.Name x p) xs [] pos) (tE X.K cx (.blt f es)) := by
  subst hg
  refine PE.imp h fun σ H Q h => ?_
  obtain ⟨G, F, δ, d, δ', ok, ev, post⟩ := h
  simp only [evE] at ev
  obtain ⟨ds, ea, hd⟩ := es_ev ev
  refine ⟨G, F, δ, ds, δ', ok, ea, fun vs H1 F1 st1 sm1 ok1 r1 => ?_⟩
  exact ⟨F1, ds, d, ok1.fd, r1.bl, hd, fun v H2 s2 r2 => post v H2 F1 (st1.trans (Step.of_same s2)) (fun z => (sm1 z).trans (.of s2)) (ok1.same' s2) (relm r2)⟩
end
end PP
end
section
namespace PP
open PySem L2 PyProof.Rows
variable [Tbs]
section
variable {K : PySem.W.Frag} {cx : Cl} {X : Cx}
theorem snd_is {f : Blt} {e : E} {T : String} {y : Expr} {t : Str} {p pos tp : Pos} (hT : tyName f = some T) (ht : t = (T : Str)) (hg : Gl X "isinstance") (hm : X.mg "isinstance" = none) (hgt : Gl X t) (hmt : X.mg t = none) (hy : PE X y (tE X.K cx e)) (hs : starEach [y, .Name t tp] X.env = [(false, eval y X.env), (false, eval (.Name t tp) X.env)]) :
    PE X (.Call (.Name "isinstance" p) [y, .Name t tp] [] pos) (tE X.K cx (.blt f (.cons e .nil))) := by
  have hb : bootBuiltins t = some (.type T) := by
    subst ht
    cases f <;> simp [tyName] at hT <;> subst hT <;> rfl
  have hn : t ≠ "__name__" := by
    subst ht
    cases f <;> simp [tyName] at hT <;> subst hT <;> decide +kernel
  have hdb : (t == ("__debug__" : Str)) = false := by
    subst ht
    cases f <;> simp [tyName] at hT <;> subst hT <;> decide +kernel
  have hA : PA X [y, .Name t tp] (tCons (tE X.K cx e) (tCons (tC (.ty T)) tNil)) := pa_cons hy (pa_cons (pe_bltn hgt hmt hb rfl hn hdb) pa_nil rfl) hs
  refine PE.imp (pe_callB (call_isD hT) hg hm rfl hA (by decide +kernel) (by decide +kernel) hs rfl) fun σ H Q h => ?_
  obtain ⟨G, F, δ, d, δ', ok, ev, post⟩ := h
  simp only [evE] at ev
  obtain ⟨ds, ea, hd⟩ := es_ev ev
  simp only [evEs, Option.bind_eq_bind, Option.bind_eq_some_iff] at ea
  obtain ⟨⟨x, δ1⟩, ea, ⟨ds', δ2⟩, eb, e2⟩ := ea
  cases eb
  cases e2
  obtain ⟨b, rfl⟩ : ∃ b, d = .bl b := by
    cases f <;> simp [tyName] at hT <;> (cases x <;> simp [bltD, isTupD, isStrD] at hd <;> exact ⟨_, hd.symm⟩)
  refine ⟨G, F, δ, x, δ1, ok, ea, fun v H1 F1 st1 sm1 ok1 r1 => ?_⟩
  exact ⟨F1, x, v, b, r1.b, rfl, hd, post _ H1 F1 st1 (fun z => sm1 (by have z' : (np e && true) = true := z; simpa using z')) ok1 (relm (rel_bl b))⟩
theorem wk_list {G : Gh} {H : Hp} {F : Addr → Prop} {a : Addr} {xs : List V} {ds : List D} (fd : FD F H) (h1 : Ls K H F a xs) (h3 : RelL K H F ds xs) : Wk K G F H (Itl K a) ds := by
  intro F2 H2 st fd2 i
  have h4 := (h1.step st).sq
  have h5 := RelL.step fd st ds xs h3
  refine ⟨fun d e => ?_, fun e => ⟨xs, h4, by rw [h5.length]; omega⟩⟩
  obtain ⟨v, hv, rv⟩ := h5.get e
  refine ⟨⟨xs, v, h4, hv⟩, fun x H3 y => ?_⟩
  obtain ⟨e3, y⟩ := y
  refine ⟨e3, ?_⟩
  have := y xs h4
  rw [hv] at this
  cases this
  exact rv
theorem wk_tup {G : Gh} {H : Hp} {F : Addr → Prop} {a : Addr} {xs : List V} {ds : List D} (fd : FD F H) (h1 : SqT K H a xs) (h3 : RelL K H F ds xs) : Wk K G F H (Itt K a) ds := by
  intro F2 H2 st fd2 i
  have h4 := sqt_keep fd st.keep h1
  have h5 := RelL.step fd st ds xs h3
  refine ⟨fun d e => ?_, fun e => ⟨xs, h4, by rw [h5.length]; omega⟩⟩
  obtain ⟨v, hv, rv⟩ := h5.get e
  refine ⟨⟨xs, v, h4, hv⟩, fun x H3 y => ?_⟩
  obtain ⟨e3, y⟩ := y
  refine ⟨e3, ?_⟩
  have := y xs h4
  rw [hv] at this
  cases this
  exact rv
theorem wk_str {G : Gh} {H : Hp} {F : Addr → Prop} {x : Str} : Wk K G F H (Its x) (x.cps.toList.map fun c => D.str ⟨#[c]⟩) := by
  intro F2 H2 st fd2 i
  refine ⟨fun d e => ?_, fun e => by show i = x.cps.size; simpa using e⟩
  rw [List.getElem?_map, Option.map_eq_some_iff] at e
  obtain ⟨c, hc, rfl⟩ := e
  have hc' : x.cps[i]? = some c := by simpa using hc
  refine ⟨(Array.getElem?_eq_some_iff.mp hc').1, fun v H3 y => ?_⟩
  obtain ⟨e3, c', h1, h2⟩ := y
  refine ⟨e3, ?_⟩
  rw [hc'] at h1
  cases h1
  rw [h2]
  exact rel_str _
theorem wk_rng {G : Gh} {H : Hp} {F : Addr → Prop} {lo : Int} {n : Nat} : Wk K G F H (Itr lo n) (rngD lo n) := by
  intro F2 H2 st fd2 i
  unfold rngD
  refine ⟨fun d e => ?_, fun e => by rw [e]; simp; exact Nat.le_refl n⟩
  rw [List.getElem?_map, Option.map_eq_some_iff] at e
  obtain ⟨c, hc, rfl⟩ := e
  have hl : i < n := by have := (List.getElem?_eq_some_iff.mp hc).1; simpa using this
  rw [List.getElem?_range hl] at hc
  cases hc
  refine ⟨hl, fun v H3 y => ?_⟩
  obtain ⟨e3, h2⟩ := y
  exact ⟨e3, by rw [h2]; exact rel_int _⟩
noncomputable def iAny (K : PySem.W.Frag) (tl : TE) : TI := fun σ H R => tl σ H fun v H1 => (∃ a, v = .ref a ∧ (∃ xs, SqL K H1 a xs) ∧ R (Itl K a) H1) ∨ (∃ a, v = .ref a ∧ (∃ xs, SqT K H1 a xs) ∧ R (Itt K a) H1) ∨ ∃ x, v = .str x ∧ R (Its x) H1
theorem pi_any {tg l : Expr} {tl : TE} (hl : PE X l tl) : PI X tg l (iAny X.K tl) := by
  intro pins s σ H R I h
  have key : ∀ {v : Value} {s1 : Shared} {x : V} {H1 : Hp}, Inv X pins σ H1 s1 → RelV x v → ((∃ a, x = .ref a ∧ (∃ xs, SqL X.K H1 a xs) ∧ R (Itl X.K a) H1) ∨ (∃ a, x = .ref a ∧ (∃ xs, SqT X.K H1 a xs) ∧ R (Itt X.K a) H1) ∨ ∃ y, x = .str y ∧ R (Its y) H1) →
      wpAny (model X.prog X.w) X.A (pyIter v) (PIE X pins σ tg R) X.xe s1 := by
    intro v s1 x H1 I1 r1 q1
    rcases q1 with ⟨a, rfl, ⟨xs, hq⟩, q⟩ | ⟨a, rfl, ⟨xs, hq⟩, q⟩ | ⟨z, rfl, q⟩
    · cases r1
      obtain ⟨its, rv, p, hz⟩ := I1.list hq
      refine wpAny_pyIter_list p.isList ?_
      refine ⟨s1.heap.objs.size, [s1.heap.objs.size], _, _, H1, rfl, I1.kept (t' := s1.toks) fun b o e => Heap.get?_push_of_some _ e, turn_list a _, ⟨_, Heap.get?_push_size _ rfl, rfl, rfl⟩, fun b hb => ?_, q⟩
      have e : b = s1.heap.objs.size := by simpa using hb
      subst e
      exact I1.fpOk (Nat.le_refl _) (I1.hok.fresh (Nat.le_refl _))
    · cases r1
      obtain ⟨its, rv, p, hz⟩ := I1.tuple hq
      refine wpAny_pyIter_tuple (show s1.heap.IsTuple a its.toArray from p) ?_
      refine ⟨s1.heap.objs.size, [s1.heap.objs.size], _, _, H1, rfl, I1.kept (t' := s1.toks) fun b o e => Heap.get?_push_of_some _ e, turn_tuple a _, ⟨_, Heap.get?_push_size _ rfl, rfl, rfl⟩, fun b hb => ?_, q⟩
      have e : b = s1.heap.objs.size := by simpa using hb
      subst e
      exact I1.fpOk (Nat.le_refl _) (I1.hok.fresh (Nat.le_refl _))
    · obtain ⟨t, rfl⟩ := r1
      refine wpAny_pyIter_strU ?_
      refine ⟨s1.heap.objs.size, [s1.heap.objs.size], _, _, H1, rfl, I1.kept (t' := s1.toks) fun b o e => Heap.get?_push_of_some _ e, turn_str s1.heap.objs.size z t, ⟨_, Heap.get?_push_size _ rfl, rfl, rfl⟩, fun b hb => ?_, q⟩
      have e : b = s1.heap.objs.size := by simpa using hb
      subst e
      exact I1.fpOk (Nat.le_refl _) (I1.hok.fresh (Nat.le_refl _))
  exact thn (hl pins s σ H _ I h) fun v s1 ⟨x, H1, I1, r1, q1⟩ => key I1 r1 q1
theorem PI.imp {tg l : Expr} {t t' : TI} (h : PI X tg l t) (w : ∀ σ H R, t' σ H R → t σ H R) : PI X tg l t' := fun pins s σ H R I q => h pins s σ H R I (w σ H R q)
theorem snd_sq {tg l : Expr} {e : E} (n : (!isPk e) = true) (hl : PE X l (tE X.K cx e)) : PI X tg l (tI X.K cx (.sq e)) := by
  refine PI.imp (pi_any hl) fun σ H R h => ?_
  obtain ⟨G, F, δ, ds, δ', ok, ev, post⟩ := h
  simp only [evI, Option.bind_eq_bind, Option.bind_eq_some_iff] at ev
  obtain ⟨⟨d, δ1⟩, ea, ds', hd, e2⟩ := ev
  cases e2
  dsimp only at hd post
  refine ⟨G, F, δ, d, δ1, ok, ea, fun v H1 F1 st1 sm1 ok1 r1 => ?_⟩
  have r := rel_of n r1
  unfold items at hd
  split at hd
  · cases hd
    unfold Rel at r
    obtain ⟨a, xs, e1, h1, h3⟩ := r
    exact .inl ⟨a, e1, ⟨xs, h1.sq⟩, post _ _ _ st1 sm1 ok1 (fun _ => wk_list ok1.fd h1 h3)⟩
  · cases hd
    unfold Rel at r
    obtain ⟨a, xs, e1, h1, h3⟩ := r
    exact .inr (.inl ⟨a, e1, ⟨xs, h1⟩, post _ _ _ st1 sm1 ok1 (fun _ => wk_tup ok1.fd h1 h3)⟩)
  · split at hd
    · cases hd
      unfold Rel at r
      exact .inr (.inr ⟨_, r, post _ _ _ st1 sm1 ok1 fun _ => wk_str⟩)
    · cases hd
  · cases hd
theorem snd_rng {tg y : Expr} {e : E} {p pos : Pos} (n : (!isPk e) = true) (hg : Gl X "range") (hm : X.mg "range" = none) (hy : PE X y (tE X.K cx e)) (hs : starEach [y] X.env = [(false, eval y X.env)]) : PI X tg (.Call (.Name "range" p) [y] [] pos) (tI X.K cx (.rng e)) := by
  refine PI.imp (pi_range1 hg hm (pa_cons hy pa_nil hs) hs) fun σ H R h => ?_
  obtain ⟨G, F, δ, ds, δ', ok, ev, post⟩ := h
  simp only [evI, Option.bind_eq_bind, Option.bind_eq_some_iff] at ev
  obtain ⟨⟨d, δ1⟩, ea, ev⟩ := ev
  cases d with
  | int j =>
    dsimp only at ev
    split at ev
    · rename_i hj
      cases ev
      refine ⟨G, F, δ, .int j, _, ok, ea, fun v H1 F1 st1 sm1 ok1 r1 => ?_⟩
      have r := rel_of n r1
      unfold Rel at r
      subst r
      exact ⟨j, rfl, hj.1, hj.2, post _ _ _ st1 sm1 ok1 fun _ => wk_rng⟩
    · cases ev
  | _ => cases ev
end
end PP
end
section
namespace PP
open PySem L2 PyProof.Rows
variable [Tbs]
noncomputable def spFF (K : PySem.W.Frag) (f : List D → Option D) : Sp := fun vs H Q _ => ∃ F ds ws k cs a d, FD F H ∧ TF F ∧ Tabs H ∧ vs = ws ++ [.ref a] ∧ RelL K H F ds ws ∧ FnV H k cs a ∧ f (ds ++ [.fn k cs]) = some d ∧ ∀ v H', Sim H H' → Tabs H' → Rel K H' F d v → Q v H'
noncomputable def spO (K : PySem.W.Frag) (f : List D → Option D) : Sp := fun vs H Q _ => ∃ F ds zs, FD F H ∧ TF F ∧ Tabs H ∧ RelL K H F ds vs ∧ f ds = some (.lst zs) ∧ ∀ a xs H', Sim H H' → Tabs H' → H a = none → H' a = some (.lst xs) → RelL K H' (fun b => F b ∨ b = a) zs xs → Q (.ref a) H'
noncomputable def LmOk (P : Program) (w : World) (K : PySem.W.Frag) (mg : Str → Option Value) (base : Heap) (n k : Nat) (f : List D → Option D) : Prop :=
  ∀ (A : Around) (outer : List Env) (s : Shared) (H : Hp) (a : Addr) (us : List Value) (vs : List V) (cs : List D) (Q : VK), Room n A → Env0 P w K mg base A outer s H → Vals vs us → FnV H k cs a →
    (∃ F ds d, FD F H ∧ TF F ∧ Tabs H ∧ RelL K H F ds vs ∧ lfL ds = true ∧ f (ds ++ cs) = some d ∧ lf d = true ∧ ∀ v H', Sim H H' → Tabs H' → Rel K H' F d v → Q v H') →
    codeAny (model P w) A (.call (.ref a) ⟨us, []⟩) (CR CX0 outer P w H s Q E0) s
structure Cok (X : Cx) (c : Ck) (cx : Cl) (k : Nat) : Prop where
  hN : X.N = c.N
  nd : c.N.Nodup
  vis : ∀ x, Vis c.sc x → Vis X.env.scope x
  gl : ∀ x, c.sc.names.lookup x = some .globalImplicit → Gl X x
  st : ∀ x, L2.Loc c.sc x → L2.Loc X.env.scope x ∧ (X.fn x = true ∨ X.env.scope.names.lookup x = some .local)
  kc : ∀ x, (c.sc.names.lookup x = some .cell ∨ c.sc.names.lookup x = some .free) → X.env.kindOf x = some .cell ∨ X.env.kindOf x = some .free
  calm : X.calm = true
  xe : X.xe = fun _ _ => False
  room : Room k X.A
  fns : ∀ (f : Nat) (x : Str) (ps : List Str), c.fns[f]? = some (x, ps) → ∃ a fd, X.mg x = some (.ref a) ∧ PySem.W.keepIn X.K (.ref a) = true ∧ Binds X.K fd ps [] ∧ FnOk X.prog X.w X.K X.mg X.base CX0 k a fd ps (spF X.K (cx.call f))
  fnF : ∀ (f : Nat) (x : Str) (ps : List Str), c.fns[f]? = some (x, ps) → cx.hf f = true → ∃ a fd, X.mg x = some (.ref a) ∧ PySem.W.keepIn X.K (.ref a) = true ∧ Binds X.K fd ps [] ∧ FnOk X.prog X.w X.K X.mg X.base CX0 k a fd ps (spFF X.K (cx.call f))
  fnO : ∀ (f : Nat) (x : Str) (ps : List Str), c.fns[f]? = some (x, ps) → ∃ a fd, X.mg x = some (.ref a) ∧ PySem.W.keepIn X.K (.ref a) = true ∧ Binds X.K fd ps [] ∧ FnOk X.prog X.w X.K X.mg X.base CX0 k a fd ps (spO X.K (cx.call (f + own0)))
  lam : ∀ (n : Nat) (cs : List D) (H : Hp) (a : Addr), FnV H n cs a → LmOk X.prog X.w X.K X.mg X.base k n (cx.call n)
  blt : ∀ x, x ∈ bltNames → X.mg x = none
  glob : ∀ (g : Nat) (x : Str) (d : D), c.gn[g]? = some x → cx.gl[g]? = some d → ∃ u v, X.mg x = some u ∧ RelV v u ∧ ∀ H F, Rel X.K H F d v
  gsome : ∀ (g : Nat) (x : Str), c.gn[g]? = some x → ∃ d, cx.gl[g]? = some d
theorem visB_vis {sc : Scope} {x : Str} (h : visB sc x = true) : Vis sc x := by
  unfold visB at h
  split at h
  · exact .inl ‹_›
  · exact .inr (.inl ‹_›)
  · exact .inr (.inr ‹_›)
  · cases h
theorem locB_loc {sc : Scope} {x : Str} (h : locB sc x = true) : L2.Loc sc x := by
  unfold locB at h
  split at h
  · exact .inl ‹_›
  · exact .inr ‹_›
  · cases h
theorem glB_gl {sc : Scope} {x : Str} (h : glB sc x = true) : sc.names.lookup x = some .globalImplicit := by
  unfold glB at h
  split at h
  · assumption
  · cases h
theorem nmOk_of {x : Str} (h : nmOk x = true) : (x == ("__debug__" : Str)) = false ∧ (x == ("__classdict__" : Str)) = false ∧ x ≠ ("__name__" : Str) := by
  unfold nmOk at h
  rw [Bool.and_eq_true, Bool.and_eq_true] at h
  refine ⟨by simpa using h.1.1, by simpa using h.1.2, ?_⟩
  have := h.2
  intro z
  subst z
  revert this
  decide +kernel
section
variable {X : Cx} {c : Ck} {cx : Cl} {k : Nat}
theorem Cok.name (C : Cok X c cx k) {i : Nat} {x : Str} (h : nameIs c i x = true) : X.N[i]? = some x ∧ Vis X.env.scope x ∧ (x == ("__debug__" : Str)) = false ∧ (x == ("__classdict__" : Str)) = false := by
  unfold nameIs at h
  rw [Bool.and_eq_true, Bool.and_eq_true] at h
  obtain ⟨⟨h1, h2⟩, h3⟩ := h
  obtain ⟨n1, n2, n3⟩ := nmOk_of h3
  exact ⟨by rw [C.hN]; exact of_decide_eq_true h1, C.vis x (visB_vis h2), n1, n2⟩
theorem Cok.to (C : Cok X c cx k) {i : Nat} {x : Str} (h : nameTo c i x = true) : X.N[i]? = some x ∧ L2.Loc X.env.scope x ∧ (X.fn x = true ∨ X.env.scope.names.lookup x = some .local) := by
  unfold nameTo at h
  rw [Bool.and_eq_true, Bool.and_eq_true] at h
  obtain ⟨⟨h1, h2⟩, h3⟩ := h
  obtain ⟨s1, s2⟩ := C.st x (locB_loc h2)
  exact ⟨by rw [C.hN]; exact of_decide_eq_true h1, s1, s2⟩
theorem Cok.global (C : Cok X c cx k) {x : Str} (h : globIs c x = true) : Gl X x ∧ (x == ("__debug__" : Str)) = false ∧ x ≠ ("__name__" : Str) := by
  unfold globIs at h
  rw [Bool.and_eq_true] at h
  obtain ⟨n1, n2, n3⟩ := nmOk_of h.2
  exact ⟨C.gl x (glB_gl h.1), n1, n3⟩
theorem Cok.units (C : Cok X c cx k) : X.A.units + 200 < cLine := by have := C.room.un; omega
theorem Cok.nd' (C : Cok X c cx k) : X.N.Nodup := by rw [C.hN]; exact C.nd
noncomputable def gNames : List Nat → TGs
  | [] => gNil
  | i :: is => gCons (gName i) (gNames is)
noncomputable def gSeq (K : PySem.W.Frag) (n : Nat) (t : TGs) : TG := fun v σ H Q => ∃ a xs, v = .ref a ∧ (SqT K H a xs ∨ SqL K H a xs) ∧ xs.length = n ∧ t xs σ H Q
theorem assign_Tuple_list {prog : Program} {w : World} {A : Around} {E : Value → Shared → Prop} {s : Shared} {env : Env} {elts : List Expr} {x1} {pos : Pos} {t : Addr} {items : Array Value} {Q : Unit → Shared → Prop} (hh : A.handled = none) (ht : s.heap.IsList t items)
    (hn : (assignEach elts env).length = items.size) (hstar : (assignEach elts env).findIdx? (·.1) = none)
    (h : ∀ h', Heap.ExtBut s.heap.objs.size s.heap h' → wpAny (model prog w) A (assignInOrder ((assignEach elts env).map (·.2)) items.toList) Q E { s with heap := h' }) :
    wpAny (model prog w) A (assign (.Tuple elts x1 pos) env (.ref t)) Q E s := by
  rw [assign_Tuple]
  refine wpAny_bind (wpAny_standAt ?_)
  unfold unpack
  rw [hn, hstar]
  exact wpAny_bind (wpAny_holding (PySem.W.kun_itemsOf hh ht h))
theorem pg_seq {X : Cx} {es : List Expr} {k : Nat} {t : TGs} {n : Nat} {pos : Pos} (hc : X.calm = true) (h : PGs X es t)
    (hn : (assignEach es X.env).length = n := by rfl) (hst : (assignEach es X.env).findIdx? (·.1) = none := by rfl) : PG X (.Tuple es k pos) (gSeq X.K n t) := by
  intro pins s σ H v u Q I r hw
  obtain ⟨a, xs, e1, hq, hl, hw⟩ := hw
  rcases hq with hq | hq
  · exact pg_tup hc h hn hst pins s σ H v u Q I r ⟨a, xs, e1, hq, hl, hw⟩
  · subst e1
    cases r
    obtain ⟨its, rv, pl, hz⟩ := I.list hq
    refine assign_Tuple_list (I.ok.hd hc) pl.isList (by simp [hn, ← hl, rv.length]) hst fun h' hx => ?_
    have I1 : Inv X pins σ H { s with heap := h' } := I.kept (t' := s.toks) fun b o e => hx b o (Nat.ne_of_lt (Heap.lt_size e)) e
    exact h pins _ σ H xs _ Q I1 (by simpa using rv) hw
noncomputable def gTg (K : PySem.W.Frag) : Tg → TG
  | .nm i => gName i
  | .tp is => gSeq K is.length (gNames is)
  | .pr i is => gSeq K 2 (gCons (gName i) (gCons (gSeq K is.length (gNames is)) gNil))
theorem pgs_names (C : Cok X c cx k) : ∀ (is : List Nat) (es : List Expr), ckNs c is es = true → PGs X es (gNames is) ∧ (assignEach es X.env).length = is.length ∧ (assignEach es X.env).findIdx? (·.1) = none
  | [], es, h => by
    obtain ⟨rfl, _⟩ := on0_of h
    exact ⟨pgs_nil, rfl, rfl⟩
  | i :: is, es, h => by
    obtain ⟨e, r, rfl, hh⟩ := onS_of h
    rw [Bool.and_eq_true] at hh
    obtain ⟨x, p, rfl, h1⟩ := onName_of hh.1
    obtain ⟨q1, q2, q3⟩ := pgs_names C is r hh.2
    obtain ⟨n1, n2, n3⟩ := C.to h1
    refine ⟨pgs_cons (pg_name C.nd' n1 n2 n3) q1 rfl, ?_, ?_⟩
    · show (assignEach r X.env).length + 1 = _
      rw [q2]; rfl
    · show List.findIdx? _ ((false, _) :: assignEach r X.env) = none
      rw [List.findIdx?_cons, q3]
      rfl
theorem snd_tg (C : Cok X c cx k) {tg : Tg} {t : Expr} (h : ckTg c tg t = true) : PG X t (gTg X.K tg) := by
  cases tg with
  | nm i =>
    obtain ⟨_, _, rfl, h1⟩ := onName_of h
    obtain ⟨n1, n2, n3⟩ := C.to h1
    exact pg_name C.nd' n1 n2 n3
  | tp is =>
    obtain ⟨_, _, _, rfl, h1⟩ := onTup_of h
    obtain ⟨q1, q2, q3⟩ := pgs_names C _ _ h1
    exact pg_seq C.calm q1 q2 q3
  | pr i is =>
    obtain ⟨_, _, _, rfl, h1⟩ := onTup_of h
    obtain ⟨_, _, rfl, h2⟩ := on2_of h1
    rw [Bool.and_eq_true] at h2
    obtain ⟨_, _, rfl, h3⟩ := onName_of h2.1
    obtain ⟨_, _, _, rfl, h4⟩ := onTup_of h2.2
    obtain ⟨n1, n2, n3⟩ := C.to h3
    obtain ⟨q1, q2, q3⟩ := pgs_names C _ _ h4
    exact pg_seq C.calm (pgs_cons (pg_name C.nd' n1 n2 n3) (pgs_cons (pg_seq C.calm q1 q2 q3) pgs_nil rfl) rfl) rfl rfl
theorem take_set {α : Type} (l : List α) (i n : Nat) (x : α) (h : n ≤ i) : (l.set i x).take n = l.take n := by
  apply List.ext_getElem?
  intro j
  by_cases hj : j < n
  · rw [List.getElem?_take_of_lt hj, List.getElem?_take_of_lt hj, List.getElem?_set_ne (by omega)]
  · rw [List.getElem?_eq_none (by rw [List.length_take]; omega), List.getElem?_eq_none (by rw [List.length_take]; omega)]
theorem tg_names {K : PySem.W.Frag} {G : Gh} {H : Hp} {F : Addr → Prop} {Q : L2.St → Hp → Prop} : ∀ (is : List Nat) (ds : List D) (xs : List V) (σ : L2.St) (δ : Loc), Ok K G F σ H δ → RelL K H F ds xs → is.length = ds.length → is.all (· < δ.length) = true →
    (∀ σ', Ok K G F σ' H ((is.zip ds).foldl (fun δ p => δ.set p.1 (.val p.2)) δ) → (∀ n, (is.all fun i => decide (n ≤ i)) = true → σ'.take n = σ.take n) → Q σ' H) → gNames is xs σ H Q
  | [], ds, xs, σ, δ, ok, r, hl, _, q => by
    have : ds = [] := List.length_eq_zero_iff.mp hl.symm
    subst this
    unfold RelL at r
    exact ⟨r, q σ ok fun _ _ => rfl⟩
  | i :: is, [], xs, σ, δ, ok, r, hl, _, q => by simp at hl
  | i :: is, d :: ds, xs, σ, δ, ok, r, hl, ha, q => by
    unfold RelL at r
    obtain ⟨y, ys, rfl, r1, r2⟩ := r
    rw [List.all_cons, Bool.and_eq_true] at ha
    refine ⟨y, ys, rfl, ?_⟩
    refine tg_names is ds ys (σ.set i (some y)) (δ.set i (.val d)) (ok.set (of_decide_eq_true ha.1) r1) r2 (by simpa using hl) ?_ fun σ' o t => q σ' o fun n hn => ?_
    · rw [List.length_set]; exact ha.2
    · rw [List.all_cons, Bool.and_eq_true] at hn
      rw [t n hn.2, take_set _ _ _ _ (of_decide_eq_true hn.1)]
theorem tg_read {K : PySem.W.Frag} {G : Gh} {H : Hp} {F : Addr → Prop} {σ : L2.St} {δ δ' : Loc} {tg : Tg} {d : D} {v : V} {Q : L2.St → Hp → Prop} (ok : Ok K G F σ H δ) (r : Rel K H F d v) (e : setTg δ tg d = some δ') (q : ∀ σ', Ok K G F σ' H δ' → (∀ n, tgGe n tg = true → σ'.take n = σ.take n) → Q σ' H) : gTg K tg v σ H Q := by
  unfold setTg at e
  split at e
  · split at e
    · cases e
      exact q _ (ok.set ‹_› r) fun n hn => take_set _ _ _ _ (of_decide_eq_true hn)
    · cases e
  · split at e
    · rename_i hh
      cases e
      unfold Rel at r
      obtain ⟨a, xs, e1, h1, h2⟩ := r
      exact ⟨a, xs, e1, .inl h1, by rw [h2.length]; exact hh.1.symm, tg_names _ _ _ _ _ ok h2 hh.1 hh.2 q⟩
    · cases e
  · split at e
    · rename_i hh
      cases e
      unfold Rel at r
      obtain ⟨a, xs, e1, h1, h2⟩ := r
      exact ⟨a, xs, e1, .inr h1.b.sq, by rw [h2.length]; exact hh.1.symm, tg_names _ _ _ _ _ ok h2 hh.1 hh.2 q⟩
    · cases e
  · split at e
    · rename_i hh
      cases e
      unfold Rel at r
      obtain ⟨a, xs, e1, h1, h2⟩ := r
      unfold RelL at h2
      obtain ⟨y, ys, rfl, r1, r2⟩ := h2
      unfold RelL at r2
      obtain ⟨z, zs, rfl, r3, r4⟩ := r2
      unfold RelL at r4
      subst r4
      unfold Rel at r3
      obtain ⟨b, ws, e2, h3, h4⟩ := r3
      refine ⟨a, [y, z], e1, .inl h1, rfl, y, [z], rfl, z, [], rfl, b, ws, e2, .inl h3, by rw [h4.length]; exact hh.2.1.symm, ?_⟩
      refine tg_names _ _ _ _ _ (ok.set hh.1 r1) h4 hh.2.1 (by rw [List.length_set]; exact hh.2.2) fun σ' o t => ⟨rfl, q σ' o fun n hn => ?_⟩
      have hn' := (Bool.and_eq_true _ _).mp (show (decide (n ≤ _) && _) = true from hn)
      rw [t n hn'.2, take_set _ _ _ _ (of_decide_eq_true hn'.1)]
    · cases e
  · cases e
theorem Ok.ext {K : PySem.W.Frag} {G : Gh} {H : Hp} {F : Addr → Prop} {σ : L2.St} {δ : Loc} (h : Ok K G F σ H δ) (tl : L2.St) : Ok K G F (σ ++ tl) H (δ ++ List.replicate tl.length .no) := by
  have low : ∀ (j : Nat) (s : Sl), (δ ++ List.replicate tl.length .no)[j]? = some s → s = .no ∨ (δ[j]? = some s ∧ (σ ++ tl)[j]? = σ[j]?) := fun j s e => by
    by_cases hj : j < δ.length
    · rw [List.getElem?_append_left hj] at e
      exact .inr ⟨e, List.getElem?_append_left (by rw [← h.len]; exact hj)⟩
    · rw [List.getElem?_append_right (by omega), List.getElem?_replicate] at e
      split at e
      · cases e; exact .inl rfl
      · cases e
  refine ⟨h.same, h.fd, h.rf, h.rl, h.tf, h.tabs, by rw [List.length_append, List.length_append, List.length_replicate, h.len], fun j s e => ?_, fun i j ds es a e1 e2 p1 p2 => ?_⟩
  · rcases low j s e with rfl | ⟨e1, e2⟩
    · trivial
    · rw [e2]; exact h.sl j s e1
  · rcases low i _ e1 with z | ⟨a1, a2⟩
    · cases z
    · rcases low j _ e2 with z | ⟨b1, b2⟩
      · cases z
      · rw [a2] at p1; rw [b2] at p2
        exact h.apart i j ds es a a1 b1 p1 p2
theorem Ok.cut {K : PySem.W.Frag} {G : Gh} {H : Hp} {F : Addr → Prop} {σ : L2.St} {δ : Loc} (h : Ok K G F σ H δ) (n : Nat) : Ok K G F (σ.take n) H (δ.take n) := by
  have low : ∀ (j : Nat) (s : Sl), (δ.take n)[j]? = some s → δ[j]? = some s ∧ (σ.take n)[j]? = σ[j]? := fun j s e => by
    by_cases hj : j < n
    · rw [List.getElem?_take_of_lt hj] at e
      exact ⟨e, List.getElem?_take_of_lt hj⟩
    · rw [List.getElem?_eq_none (by rw [List.length_take]; omega)] at e; cases e
  refine ⟨h.same, h.fd, h.rf, h.rl, h.tf, h.tabs, by rw [List.length_take, List.length_take, h.len], fun j s e => ?_, fun i j ds es a e1 e2 p1 p2 => ?_⟩
  · obtain ⟨e1, e2⟩ := low j s e
    rw [e2]; exact h.sl j s e1
  · obtain ⟨a1, a2⟩ := low i _ e1
    obtain ⟨b1, b2⟩ := low j _ e2
    rw [a2] at p1; rw [b2] at p2
    exact h.apart i j ds es a a1 b1 p1 p2
noncomputable def Gh.and (G : Gh) (D : Addr) : Gh := ⟨G.h, fun b => G.R b ∨ b = D⟩
theorem Ok.free {K : PySem.W.Frag} {G : Gh} {H : Hp} {F : Addr → Prop} {σ : L2.St} {δ : Loc} {p : Addr} (h : Ok K G F σ H δ) (hp : H p = none) : G.free p := by
  refine ⟨?_, fun z => ?_⟩
  · cases e : G.h p with
    | none => rfl
    | some o =>
      by_cases t : NT o
      · rw [h.same.nt p o t e] at hp
        cases hp
      · cases o <;> first | (exact absurd trivial t) | skip
        obtain ⟨qs, z⟩ := h.same.tb p _ e
        rw [z] at hp
        cases hp
  · rcases h.rl p z with ⟨xs, e⟩ | ⟨xs, e⟩ <;> (rw [hp] at e; cases e)
theorem Ok.enter {K : PySem.W.Frag} {G : Gh} {H : Hp} {F : Addr → Prop} {σ : L2.St} {δ : Loc} {p : Addr} (h : Ok K G F σ H δ) (hp : H p = none) (xs : List V) : Ok K (G.and p) (fun b => F b ∨ b = p) σ (upd H p (.lst xs)) δ ∧ Step G F H (fun b => F b ∨ b = p) (upd H p (.lst xs)) := by
  have nF : ¬ F p := not_F h.fd hp
  have sm := same_new hp (.lst xs)
  have st : ∀ G' : Gh, Step G' F H (fun b => F b ∨ b = p) (upd H p (.lst xs)) := fun G' => ⟨fun b o _ e _ => sm b o e, fun b z => by rcases z with z | z; exact .inl z; exact .inr (by rw [z]; exact hp), fun b o _ f e => ⟨.inl f, sm b o e⟩, fun b ps e => ⟨ps, sm b _ e⟩⟩
  refine ⟨⟨h.same.trans (.of sm), fun b z => ?_, fun b z => ?_, fun b z => ?_, fun t ht => .inl (h.tf t ht), h.tabs.keep fun b o _ e => sm b o e, h.len, fun j s e => ?_, h.apart⟩, st G⟩
  · rcases z with z | z
    · exact h.fd.same sm b z
    · rw [z]; exact .inl ⟨xs, upd_same⟩
  · rcases z with z | z
    · exact .inl (h.rf b z)
    · exact .inr z
  · rcases z with z | z
    · exact (h.rl b z).imp (fun ⟨ys, e⟩ => ⟨ys, sm b _ e⟩) fun ⟨ys, e⟩ => ⟨ys, sm b _ e⟩
    · rw [z]; exact .inl ⟨xs, upd_same⟩
  · have q := h.sl j s e
    cases s with
    | no => trivial
    | fnc n cs =>
      obtain ⟨v, e, r⟩ := q
      exact ⟨v, e, r.keep (fz_keep h.fd (st G).keep)⟩
    | val d =>
      obtain ⟨v, e, r⟩ := q
      exact ⟨v, e, Rel.step h.fd (st G) d v r⟩
    | own ds =>
      obtain ⟨a, ys, e, h1, h2, h3, h4⟩ := q
      refine ⟨a, ys, e, .inl h1, ⟨h2.1, fun z => ?_⟩, sm _ _ h3, RelL.step h.fd (st G) ds ys h4⟩
      rcases z with z | z
      · exact h2.2 z
      · rw [z] at h1; exact nF h1
theorem Ok.poke {K : PySem.W.Frag} {G : Gh} {H : Hp} {F : Addr → Prop} {σ : L2.St} {δ : Loc} {p : Addr} {zs : List V} (h : Ok K (G.and p) F σ H δ) (hg : G.free p) (hP : H p = some (.lst zs)) (xs : List V) : Ok K (G.and p) F σ (upd H p (.lst xs)) δ := by
  have hF : F p := h.rf p (.inr rfl)
  have st : Step g0 F H F (upd H p (.lst xs)) := ⟨fun b o _ e n => by rw [upd_ne (fun z : b = p => n (by rw [z]; exact hF))]; exact e, fun b z => .inl z, fun _ _ r _ _ => r.elim, fun b ps e => ⟨ps, by rw [upd_ne (fun w : b = p => by rw [w, hP] at e; cases e)]; exact e⟩⟩
  refine ⟨⟨fun b o t e => ?_, fun b ps e => ?_⟩, fun b z => ?_, h.rf, fun b z => ?_, h.tf, h.tabs.keep fun b o n e => ?_, h.len, fun j s e => ?_, h.apart⟩
  · rw [upd_ne (fun z : b = p => by have e' : G.h b = some o := e; rw [z, hg.1] at e'; cases e')]
    exact h.same.nt b o t e
  · rw [upd_ne (fun z : b = p => by have e' : G.h b = some _ := e; rw [z, hg.1] at e'; cases e')]
    exact h.same.tb b ps e
  · by_cases hb : b = p
    · rw [hb]; exact .inl ⟨xs, upd_same⟩
    · rw [upd_ne hb]; exact h.fd b z
  · by_cases hb : b = p
    · rw [hb]; exact .inl ⟨xs, upd_same⟩
    · rw [upd_ne hb]; exact h.rl b z
  · rw [upd_ne (fun w : b = p => by rw [w, hP] at e; cases e; exact n _ rfl)]
    exact e
  · have q := h.sl j s e
    cases s with
    | no => trivial
    | fnc n cs =>
      obtain ⟨v, e, r⟩ := q
      exact ⟨v, e, r.keep (fz_keep h.fd st.keep)⟩
    | val d =>
      obtain ⟨v, e, r⟩ := q
      exact ⟨v, e, Rel.step h.fd st d v r⟩
    | own ds =>
      obtain ⟨a, ys, e, h1, h2, h3, h4⟩ := q
      refine ⟨a, ys, e, h1, h2, ?_, RelL.step h.fd st ds ys h4⟩
      rw [upd_ne (fun z : a = p => h2.2 (.inr z))]
      exact h3
theorem Ok.leave {K : PySem.W.Frag} {G : Gh} {H : Hp} {F : Addr → Prop} {σ : L2.St} {δ : Loc} {p : Addr} (h : Ok K (G.and p) F σ H δ) (hg : G.free p) : Ok K G (fun b => F b ∧ b ≠ p) σ H δ := by
  have hs : ∀ b, (F b ∧ b ≠ p) → F b := fun b z => z.1
  have tf' : TF fun b => F b ∧ b ≠ p := fun t ht => ⟨h.tf t ht, fun w => by
    obtain ⟨ps, e, _⟩ := h.tabs t ht
    rcases h.rl p (.inr rfl) with ⟨zs, hP⟩ | ⟨zs, hP⟩ <;> (rw [w, hP] at e; cases e)⟩
  refine ⟨h.same, fun b z => h.fd b z.1, fun b z => ⟨h.rf b (.inl z), fun w => hg.2 (by rw [← w]; exact z)⟩, fun b z => h.rl b (.inl z), tf', h.tabs, h.len, fun j s e => ?_, h.apart⟩
  have q := h.sl j s e
  cases s with
  | no => trivial
  | fnc n cs => exact q
  | val d =>
    obtain ⟨v, e, r⟩ := q
    exact ⟨v, e, Rel.less h.fd hs r⟩
  | own ds =>
    obtain ⟨a, ys, e, h1, h2, h3, h4⟩ := q
    exact ⟨a, ys, e, ⟨h1, fun z => h2.2 (.inr z)⟩, ⟨h2.1, fun z => h2.2 (.inl z)⟩, h3, RelL.less h.fd hs h4⟩
theorem Ok.keep {K : PySem.W.Frag} {G : Gh} {H : Hp} {F : Addr → Prop} {σ : L2.St} {δ : Loc} {p : Addr} (h : Ok K (G.and p) F σ H δ) : Ok K G F σ H δ := by
  refine ⟨h.same, h.fd, fun b z => h.rf b (.inl z), fun b z => h.rl b (.inl z), h.tf, h.tabs, h.len, fun j s e => ?_, h.apart⟩
  have q := h.sl j s e
  cases s with
  | no => trivial
  | fnc n cs => exact q
  | val d => exact q
  | own ds =>
    obtain ⟨a, ys, e, h1, h2, h3, h4⟩ := q
    exact ⟨a, ys, e, h1, ⟨h2.1, fun z => h2.2 (.inl z)⟩, h3, h4⟩
end
end PP
end
section
namespace PP
open PySem L2 PyProof.Rows
variable [Tbs]
section
variable {K : PySem.W.Frag} {cx : Cl}
noncomputable def compF (cx : Cl) (k : Nat) (tg : Tg) (ifs : Eo) (elt : E) : D → Loc → Option (Option D × Loc) := fun x δ0 => do
  let δ2 ← setTg (δ0 ++ List.replicate k .no) tg x
  let (b, δ3) ← evG cx ifs δ2
  if b then do
    let (y, δ4) ← evE cx elt δ3
    return (some y, δ4.take δ0.length)
  else return (none, δ3.take δ0.length)
theorem comp_ev {k : Nat} {tg : Tg} {src : It} {ifs : Eo} {elt : E} {δ δ' : Loc} {d : D} (ev : evE cx (.comp k tg src ifs elt) δ = some (d, δ')) :
    ∃ ds δ1 ys, evI cx src δ = some (ds, δ1) ∧ compL (compF cx k tg ifs elt) ds δ1 = some (ys, δ') ∧ ys.length ≤ sizeLine ∧ d = .lst ys := by
  simp only [evE, Option.bind_eq_bind, Option.bind_eq_some_iff] at ev
  obtain ⟨⟨ds, δ1⟩, ea, ⟨ys, δ2⟩, eb, ev⟩ := ev
  split at ev
  · cases ev
    exact ⟨ds, δ1, ys, ea, eb, ‹_›, rfl⟩
  · cases ev
theorem compF_inv {k : Nat} {tg : Tg} {ifs : Eo} {elt : E} {x : D} {δ0 δ1 : Loc} {o : Option D} (h : compF cx k tg ifs elt x δ0 = some (o, δ1)) : ∃ δ2 b δ3, setTg (δ0 ++ List.replicate k .no) tg x = some δ2 ∧ evG cx ifs δ2 = some (b, δ3) ∧
    ((b = true ∧ ∃ y δ4, evE cx elt δ3 = some (y, δ4) ∧ o = some y ∧ δ1 = δ4.take δ0.length) ∨ (b = false ∧ o = none ∧ δ1 = δ3.take δ0.length)) := by
  unfold compF at h
  simp only [Option.bind_eq_bind, Option.bind_eq_some_iff] at h
  obtain ⟨δ2, e1, ⟨b, δ3⟩, e2, h⟩ := h
  refine ⟨δ2, b, δ3, e1, e2, ?_⟩
  cases b with
  | true =>
    simp only [if_true, Option.bind_eq_some_iff] at h
    obtain ⟨⟨y, δ4⟩, e3, h⟩ := h
    cases h
    exact .inl ⟨rfl, y, δ4, e3, rfl, rfl⟩
  | false =>
    simp only [Bool.false_eq_true, if_false] at h
    cases h
    exact .inr ⟨rfl, rfl, rfl⟩
theorem compL_cons {f : D → Loc → Option (Option D × Loc)} {x : D} {xs ys : List D} {δ δ' : Loc} (h : compL f (x :: xs) δ = some (ys, δ')) : ∃ o δ1 zs, f x δ = some (o, δ1) ∧ compL f xs δ1 = some (zs, δ') ∧ ys = (match o with | some y => y :: zs | none => zs) := by
  unfold compL at h
  simp only [Option.bind_eq_bind, Option.bind_eq_some_iff] at h
  obtain ⟨⟨o, δ1⟩, e1, ⟨zs, δ2⟩, e2, h⟩ := h
  cases h
  exact ⟨o, δ1, zs, e1, e2, rfl⟩
theorem Step.sub {G G' : Gh} {F F' : Addr → Prop} {H H' : Hp} (h : Step G' F H F' H') (hs : ∀ b, G.R b → G'.R b) : Step G F H F' H' := ⟨h.keep, h.grow, fun b o r => h.res b o (hs b r), h.tb⟩
theorem fold_len : ∀ (ps : List (Nat × D)) (δ : Loc), (ps.foldl (fun δ p => δ.set p.1 (Sl.val p.2)) δ).length = δ.length := by
  intro ps
  induction ps with
  | nil => intro δ; rfl
  | cons a r ih => intro δ; rw [List.foldl_cons, ih, List.length_set]
theorem setTg_len {δ δ' : Loc} {tg : Tg} {d : D} (es : setTg δ tg d = some δ') : δ'.length = δ.length := by
  unfold setTg at es
  split at es
  · split at es
    · cases es; rw [List.length_set]
    · cases es
  · split at es
    · cases es; rw [fold_len]
    · cases es
  · split at es
    · cases es; rw [fold_len]
    · cases es
  · split at es
    · cases es; rw [fold_len, List.length_set]
    · cases es
  · cases es
theorem comp_turns {G : Gh} {F1 : Addr → Prop} {H1 : Hp} {σ : L2.St} {J : L2.It} {ds ys : List D} {δ1 δ2 : Loc} {k : Nat} {tg : Tg} {ifs : Eo} {elt : E} {p : Addr} {Q : L2.St → Hp → Prop} (n : (!isPk elt) = true) (hge : tgGe σ.length tg = true)
    (ok1 : Ok K G F1 σ H1 δ1) (wk : Wk K G F1 H1 J ds) (hp : H1 p = none) (ev : compL (compF cx k tg ifs elt) ds δ1 = some (ys, δ2)) (hz : ys.length ≤ sizeLine)
    (q : ∀ σ' H2 F2 xs, Ok K (G.and p) F2 σ H2 δ2 → H2 p = some (.lst xs) → RelL K H2 F2 ys xs → Step G F1 H1 F2 H2 → ((npO ifs && np elt) = true → Sim H1 H2) → Q σ' H2) :
    tLp J (gTg K tg) (tG K cx ifs) (tEmit p (tE K cx elt)) (σ ++ List.replicate k none) (upd H1 p (.lst [])) Q := by
  have hg := ok1.free hp
  obtain ⟨ok2, st2⟩ := ok1.enter hp []
  have hFs : ∀ b, G.R b → (G.and p).R b := fun b z => .inl z
  refine ⟨fun i m σc Hc => ∃ F' δi zs xs yi, m = ds.length - i ∧ i ≤ ds.length ∧ (∃ tl : L2.St, σc = σ ++ tl ∧ tl.length = k) ∧ Ok K (G.and p) F' σ Hc δi ∧ compL (compF cx k tg ifs elt) (ds.drop i) δi = some (zs, δ2) ∧ yi ++ zs = ys ∧ Hc p = some (.lst xs) ∧ RelL K Hc F' yi xs ∧ Step G F1 H1 F' Hc ∧
      ((npO ifs && np elt) = true → Sim H1 Hc), ⟨ds.length, fun b => F1 b ∨ b = p, δ1, ys, [], [], by simp, Nat.zero_le _, ⟨_, rfl, by simp⟩, ok2, ev, rfl, upd_same, RelL.nil, st2, fun _ => .of (same_new hp _)⟩, ?_⟩
  rintro i m σc Hc ⟨F', δi, zs, xs, yi, rfl, hi, ⟨tl, rfl, htl⟩, ok, el, ey, eD, rl, st, sm⟩
  have hF : F' p := ok.rf p (.inr rfl)
  by_cases hlt : i < ds.length
  · obtain ⟨d, hd⟩ : ∃ d, ds[i]? = some d := ⟨ds[i], by simp [hlt]⟩
    obtain ⟨go, yl⟩ := (wk F' Hc st ok.fd i).1 d hd
    refine .inr ⟨go, fun x H3 hy => ?_⟩
    obtain ⟨e3, rx⟩ := yl x H3 hy
    subst e3
    have edr : ds.drop i = d :: ds.drop (i + 1) := by
      rw [List.drop_eq_getElem_cons hlt]
      congr 1
      rw [List.getElem?_eq_getElem hlt] at hd
      exact Option.some.inj hd
    rw [edr] at el
    obtain ⟨o, δ5, zs', ef, el', ez⟩ := compL_cons el
    obtain ⟨δ6, b, δ7, es, eg, alt⟩ := compF_inv ef
    have okx : Ok K (G.and p) F' (σ ++ tl) H3 (δi ++ List.replicate k .no) := by rw [← htl]; exact ok.ext tl
    refine tg_read okx rx es fun σ2 ok6 htake => ?_
    have t2 : σ2.take σ.length = σ := by rw [htake _ hge, List.take_left']; rfl
    have l2 : σ2.length = σ.length + k := by
      have a1 := okx.len
      have a2 := ok6.len
      have e1 := setTg_len es
      have e2 : (σ ++ tl).length = σ.length + k := by rw [List.length_append, htl]
      omega
    have dl : δi.length = σ.length := ok.len
    have tail : ∃ tl' : L2.St, σ2 = σ ++ tl' ∧ tl'.length = k := by
      refine ⟨σ2.drop σ.length, ?_, by rw [List.length_drop]; omega⟩
      conv => lhs; rw [← List.take_append_drop σ.length σ2, t2]
    refine ⟨G.and p, F', δ6, b, δ7, ok6, eg, fun H7 F7 st7 sm7 ok7 => ?_⟩
    have keepD : ∀ {F8 : Addr → Prop} {H8 : Hp}, Step (G.and p) F' H3 F8 H8 → H8 p = some (.lst xs) := fun s8 => (s8.res p _ (.inr rfl) hF eD).2
    rcases alt with ⟨rfl, y, δ8, ee, rfl, rfl⟩ | ⟨rfl, rfl, rfl⟩
    · refine iteT ?_
      refine ⟨G.and p, F7, δ7, y, δ8, ok7, ee, fun u H8 F8 st8 sm8 ok8 r8 => ?_⟩
      have s78 := st7.trans st8
      have eD8 := keepD s78
      have ry := rel_of n r8
      have rl8 : RelL K H8 F8 yi xs := RelL.step ok.fd s78 yi xs rl
      have hF8 : F8 p := ok8.rf p (.inr rfl)
      have pk : Step g0 F8 H8 F8 (upd H8 p (.lst (xs ++ [u]))) := ⟨fun b o _ e nf => by rw [upd_ne (fun z : b = p => nf (by rw [z]; exact hF8))]; exact e, fun b z => .inl z, fun _ _ r _ _ => r.elim, fun b ps e => ⟨ps, by rw [upd_ne (fun w : b = p => by rw [w, eD8] at e; cases e)]; exact e⟩⟩
      subst ez
      have hyl : yi.length < sizeLine := by
        have := congrArg List.length ey
        rw [List.length_append] at this
        simp only [List.length_cons] at this
        omega
      refine ⟨xs, eD8, by rw [rl8.length]; exact hyl, ds.length - (i + 1), by omega, F8, δ8.take δi.length, zs', xs ++ [u], yi ++ [y], rfl, hlt, tail, ?_, el', by rw [List.append_assoc]; exact ey, upd_same, ?_, ?_, fun z => ?_⟩
      · have := (ok8.poke hg eD8 (xs ++ [u])).cut δi.length
        rw [dl, t2] at this
        rw [dl]
        exact this
      · exact RelL.step ok8.fd pk _ _ (rl8.append (RelL.one ry))
      · have s1 := st.trans (s78.sub hFs)
        refine ⟨fun b o t e nf => ?_, s1.grow, fun b o r f e => ?_, fun b ps e => ?_⟩
        · rw [upd_ne (fun w : b = p => by rw [w, hp] at e; cases e)]
          exact s1.keep b o t e nf
        · obtain ⟨a1, a2⟩ := s1.res b o r f e
          refine ⟨a1, ?_⟩
          rw [upd_ne (fun w : b = p => by rw [w, hp] at e; cases e)]
          exact a2
        · rw [upd_ne (fun w : b = p => by rw [w, hp] at e; cases e)]
          exact s1.tb b ps e
      · have z' := z
        rw [Bool.and_eq_true] at z'
        have s1 := ((sm z).trans (sm7 z'.1)).trans (sm8 z'.2)
        refine ⟨fun b o t e => ?_, fun b ps e => ?_⟩
        · rw [upd_ne (fun w : b = p => by rw [w, hp] at e; cases e)]
          exact s1.nt b o t e
        · rw [upd_ne (fun w : b = p => by rw [w, hp] at e; cases e)]
          exact s1.tb b ps e
    · refine iteF ?_
      subst ez
      refine ⟨ds.length - (i + 1), by omega, F7, δ7.take δi.length, _, xs, yi, rfl, hlt, tail, ?_, el', ey, keepD st7, RelL.step ok.fd st7 yi xs rl, st.trans (st7.sub hFs), fun z => ?_⟩
      · have := ok7.cut δi.length
        rw [dl, t2] at this
        rw [dl]
        exact this
      · have z' := z
        rw [Bool.and_eq_true] at z'
        exact (sm z).trans (sm7 z'.1)
  · have hi' : i = ds.length := by omega
    subst hi'
    rw [List.drop_length] at el
    cases el
    rw [List.append_nil] at ey
    subst ey
    exact .inl ⟨(wk F' Hc st ok.fd ds.length).2 rfl, q _ Hc F' xs ok eD rl st sm⟩
end
end PP
end
section
namespace PP
open PySem
section
variable (cx : Cl)
noncomputable def wE (e : E) (δ : Loc) (Q : D → Loc → Prop) : Prop := ∃ d δ', evE cx e δ = some (d, δ') ∧ Q d δ'
noncomputable def wT (e : E) (δ : Loc) (Q : Bool → Loc → Prop) : Prop := ∃ d δ', evT cx e δ = some (d, δ') ∧ Q d δ'
noncomputable def wEs (e : Es) (δ : Loc) (Q : List D → Loc → Prop) : Prop := ∃ d δ', evEs cx e δ = some (d, δ') ∧ Q d δ'
noncomputable def wO (e : Eo) (δ : Loc) (Q : Option Int → Loc → Prop) : Prop := ∃ d δ', evO cx e δ = some (d, δ') ∧ Q d δ'
noncomputable def wG (e : Eo) (δ : Loc) (Q : Bool → Loc → Prop) : Prop := ∃ d δ', evG cx e δ = some (d, δ') ∧ Q d δ'
noncomputable def wI (e : It) (δ : Loc) (Q : List D → Loc → Prop) : Prop := ∃ d δ', evI cx e δ = some (d, δ') ∧ Q d δ'
noncomputable def wS (s : S) (δ : Loc) (Q : Out → Prop) : Prop := ∃ o, evS cx s δ = some o ∧ Q o
noncomputable def wSs (s : Ss) (δ : Loc) (Q : Out → Prop) : Prop := ∃ o, evSs cx s δ = some o ∧ Q o
noncomputable def wTg (δ : Loc) (tg : Tg) (d : D) (Q : Loc → Prop) : Prop := ∃ δ', setTg δ tg d = some δ' ∧ Q δ'
noncomputable def wOp (op : Op) (x y : D) (Q : D → Prop) : Prop := ∃ z, opD op x y = some z ∧ Q z
noncomputable def wCmp (op : Cop) (x y : D) (Q : Bool → Prop) : Prop := ∃ z, cmpD op x y = some z ∧ Q z
noncomputable def wBlt (f : Blt) (ds : List D) (Q : D → Prop) : Prop := ∃ z, bltD f ds = some z ∧ Q z
noncomputable def wCall (f : Nat) (ds : List D) (Q : D → Prop) : Prop := ∃ z, cx.call f ds = some z ∧ Q z
noncomputable def wGet (δ : Loc) (i : Nat) (Q : D → Prop) : Prop := ∃ z, PP.get δ i = some z ∧ Q z
noncomputable def wIx (x y : D) (Q : D → Prop) : Prop := ∃ z, ixD x y = some z ∧ Q z
noncomputable def wSl (x : D) (lo hi : Option Int) (Q : D → Prop) : Prop := ∃ z, slD x lo hi = some z ∧ Q z
noncomputable def wTv (x : D) (Q : Bool → Prop) : Prop := ∃ z, tv x = some z ∧ Q z
noncomputable def wItems (x : D) (Q : List D → Prop) : Prop := ∃ z, items x = some z ∧ Q z
noncomputable def turnF (k : Nat) (tg : Tg) (ifs : Eo) (elt : E) : D → Loc → Option (Option D × Loc) := fun x δ0 => do
  let δ2 ← setTg (δ0 ++ List.replicate k .no) tg x
  let (b, δ3) ← evG cx ifs δ2
  if b then do
    let (y, δ4) ← evE cx elt δ3
    return (some y, δ4.take δ0.length)
  else return (none, δ3.take δ0.length)
noncomputable def wComp (k : Nat) (tg : Tg) (ifs : Eo) (elt : E) (ds : List D) (δ : Loc) (Q : List D → Loc → Prop) : Prop := ∃ ys δ', compL (turnF cx k tg ifs elt) ds δ = some (ys, δ') ∧ Q ys δ'
noncomputable def forF (tg : Tg) (body : Ss) : D → Loc → Option Out := fun x δ0 => match setTg δ0 tg x with
  | some δ2 => evSs cx body δ2
  | none => none
noncomputable def wFor (tg : Tg) (body : Ss) (ds : List D) (δ : Loc) (Q : Out → Prop) : Prop := ∃ o, forL (forF cx tg body) ds δ = some o ∧ Q o
noncomputable def wWhile (c : E) (body : Ss) (n : Nat) (δ : Loc) (Q : Out → Prop) : Prop := ∃ o, whileL (fun δ0 => evT cx c δ0) (fun δ0 => evSs cx body δ0) n δ = some o ∧ Q o
end
section
variable {cx : Cl} {δ : Loc}
theorem wE_var {i : Nat} {Q : D → Loc → Prop} : wE cx (.var i) δ Q ↔ wGet δ i fun d => Q d (demote δ i) := by
  unfold wE wGet
  simp only [evE, Option.bind_eq_bind, Option.bind_eq_some_iff, Option.pure_def]
  constructor
  · rintro ⟨d, δ', ⟨z, h, e⟩, q⟩
    cases e
    exact ⟨_, h, q⟩
  · rintro ⟨z, h, q⟩
    exact ⟨_, _, ⟨z, h, rfl⟩, q⟩
theorem wE_pk {i : Nat} {Q : D → Loc → Prop} : wE cx (.pk i) δ Q ↔ wGet δ i fun d => Q d δ := by
  unfold wE wGet
  simp only [evE, Option.bind_eq_bind, Option.bind_eq_some_iff, Option.pure_def]
  constructor
  · rintro ⟨d, δ', ⟨z, h, e⟩, q⟩
    cases e
    exact ⟨_, h, q⟩
  · rintro ⟨z, h, q⟩
    exact ⟨_, _, ⟨z, h, rfl⟩, q⟩
theorem wE_glob {i : Nat} {Q : D → Loc → Prop} : wE cx (.glob i) δ Q ↔ ∃ d, cx.gl[i]? = some d ∧ Q d δ := by
  unfold wE
  simp only [evE, Option.bind_eq_bind, Option.bind_eq_some_iff, Option.pure_def]
  constructor
  · rintro ⟨d, δ', ⟨z, h, e⟩, q⟩
    cases e
    exact ⟨_, h, q⟩
  · rintro ⟨z, h, q⟩
    exact ⟨_, _, ⟨z, h, rfl⟩, q⟩
theorem wE_int {i : Int} {Q : D → Loc → Prop} : wE cx (.int i) δ Q ↔ Q (.int i) δ := by
  unfold wE
  exact ⟨fun ⟨_, _, e, q⟩ => by simp only [evE] at e; cases e; exact q, fun q => ⟨_, _, by simp only [evE], q⟩⟩
theorem wE_bl {i : Bool} {Q : D → Loc → Prop} : wE cx (.bl i) δ Q ↔ Q (.bl i) δ := by
  unfold wE
  exact ⟨fun ⟨_, _, e, q⟩ => by simp only [evE] at e; cases e; exact q, fun q => ⟨_, _, by simp only [evE], q⟩⟩
theorem wE_non {Q : D → Loc → Prop} : wE cx .non δ Q ↔ Q .non δ := by
  unfold wE
  exact ⟨fun ⟨_, _, e, q⟩ => by simp only [evE] at e; cases e; exact q, fun q => ⟨_, _, by simp only [evE], q⟩⟩
theorem wE_str {i : Str} {Q : D → Loc → Prop} : wE cx (.str i) δ Q ↔ Q (.str i) δ := by
  unfold wE
  exact ⟨fun ⟨_, _, e, q⟩ => by simp only [evE] at e; cases e; exact q, fun q => ⟨_, _, by simp only [evE], q⟩⟩
theorem wE_bin {op : Op} {a b : E} {Q : D → Loc → Prop} : wE cx (.bin op a b) δ Q ↔ wE cx a δ fun x δ1 => wE cx b δ1 fun y δ2 => wOp op x y fun z => Q z δ2 := by
  unfold wE wOp
  simp only [evE, Option.bind_eq_bind, Option.bind_eq_some_iff, Option.pure_def, Prod.exists]
  constructor
  · rintro ⟨d, δ', ⟨x, δ1, h1, y, δ2, h2, z, h3, e⟩, q⟩
    cases e
    exact ⟨_, _, h1, _, _, h2, _, h3, q⟩
  · rintro ⟨x, δ1, h1, y, δ2, h2, z, h3, q⟩
    exact ⟨_, _, ⟨x, δ1, h1, y, δ2, h2, z, h3, rfl⟩, q⟩
theorem wE_cmp {op : Cop} {a b : E} {Q : D → Loc → Prop} : wE cx (.cmp op a b) δ Q ↔ wE cx a δ fun x δ1 => wE cx b δ1 fun y δ2 => wCmp op x y fun z => Q (.bl z) δ2 := by
  unfold wE wCmp
  simp only [evE, Option.bind_eq_bind, Option.bind_eq_some_iff, Option.pure_def, Prod.exists]
  constructor
  · rintro ⟨d, δ', ⟨x, δ1, h1, y, δ2, h2, z, h3, e⟩, q⟩
    cases e
    exact ⟨_, _, h1, _, _, h2, _, h3, q⟩
  · rintro ⟨x, δ1, h1, y, δ2, h2, z, h3, q⟩
    exact ⟨_, _, ⟨x, δ1, h1, y, δ2, h2, z, h3, rfl⟩, q⟩
theorem wT_cmp {op : Cop} {a b : E} {Q : Bool → Loc → Prop} : wT cx (.cmp op a b) δ Q ↔ wE cx a δ fun x δ1 => wE cx b δ1 fun y δ2 => wCmp op x y fun z => Q z δ2 := by
  unfold wE wT wCmp
  simp only [evT, Option.bind_eq_bind, Option.bind_eq_some_iff, Option.pure_def, Prod.exists]
  constructor
  · rintro ⟨d, δ', ⟨x, δ1, h1, y, δ2, h2, z, h3, e⟩, q⟩
    cases e
    exact ⟨_, _, h1, _, _, h2, _, h3, q⟩
  · rintro ⟨x, δ1, h1, y, δ2, h2, z, h3, q⟩
    exact ⟨_, _, ⟨x, δ1, h1, y, δ2, h2, z, h3, rfl⟩, q⟩
theorem wE_and {a b : E} {Q : D → Loc → Prop} : wE cx (.and a b) δ Q ↔ wE cx a δ fun x δ1 => ∃ k, x = .bl k ∧ if k = true then wE cx b δ1 Q else Q (.bl false) δ1 := by
  unfold wE
  simp only [evE, Option.bind_eq_bind, Option.bind_eq_some_iff, Prod.exists]
  constructor
  · rintro ⟨d, δ', ⟨x, δ1, h1, e⟩, q⟩
    refine ⟨x, δ1, h1, ?_⟩
    split at e
    · rename_i h; cases h; exact ⟨true, rfl, by rw [if_pos rfl]; exact ⟨_, _, e, q⟩⟩
    · rename_i h; cases h; cases e; exact ⟨false, rfl, by rw [if_neg Bool.false_ne_true]; exact q⟩
    · cases e
  · rintro ⟨x, δ1, h1, k, rfl, q⟩
    cases k with
    | true => rw [if_pos rfl] at q; obtain ⟨d, δ', e, q⟩ := q; exact ⟨d, δ', ⟨_, _, h1, e⟩, q⟩
    | false => rw [if_neg Bool.false_ne_true] at q; exact ⟨_, _, ⟨_, _, h1, rfl⟩, q⟩
theorem wE_or {a b : E} {Q : D → Loc → Prop} : wE cx (.or a b) δ Q ↔ wE cx a δ fun x δ1 => ∃ k, x = .bl k ∧ if k = true then Q (.bl true) δ1 else wE cx b δ1 Q := by
  unfold wE
  simp only [evE, Option.bind_eq_bind, Option.bind_eq_some_iff, Prod.exists]
  constructor
  · rintro ⟨d, δ', ⟨x, δ1, h1, e⟩, q⟩
    refine ⟨x, δ1, h1, ?_⟩
    split at e
    · rename_i h; cases h; cases e; exact ⟨true, rfl, by rw [if_pos rfl]; exact q⟩
    · rename_i h; cases h; exact ⟨false, rfl, by rw [if_neg Bool.false_ne_true]; exact ⟨_, _, e, q⟩⟩
    · cases e
  · rintro ⟨x, δ1, h1, k, rfl, q⟩
    cases k with
    | true => rw [if_pos rfl] at q; exact ⟨_, _, ⟨_, _, h1, rfl⟩, q⟩
    | false => rw [if_neg Bool.false_ne_true] at q; obtain ⟨d, δ', e, q⟩ := q; exact ⟨d, δ', ⟨_, _, h1, e⟩, q⟩
theorem wE_not {a : E} {Q : D → Loc → Prop} : wE cx (.not a) δ Q ↔ wE cx a δ fun x δ1 => ∃ k, x = .bl k ∧ Q (.bl (!k)) δ1 := by
  unfold wE
  simp only [evE, Option.bind_eq_bind, Option.bind_eq_some_iff, Prod.exists]
  constructor
  · rintro ⟨d, δ', ⟨x, δ1, h1, e⟩, q⟩
    refine ⟨x, δ1, h1, ?_⟩
    split at e
    · rename_i h; cases h; cases e; exact ⟨_, rfl, q⟩
    · cases e
  · rintro ⟨x, δ1, h1, k, rfl, q⟩
    exact ⟨_, _, ⟨_, _, h1, rfl⟩, q⟩
theorem wE_neg {a : E} {Q : D → Loc → Prop} : wE cx (.neg a) δ Q ↔ wE cx a δ fun x δ1 => ∃ i, x = .int i ∧ Q (.int (-i)) δ1 := by
  unfold wE
  simp only [evE, Option.bind_eq_bind, Option.bind_eq_some_iff, Prod.exists]
  constructor
  · rintro ⟨d, δ', ⟨x, δ1, h1, e⟩, q⟩
    refine ⟨x, δ1, h1, ?_⟩
    split at e
    · rename_i h; cases h; cases e; exact ⟨_, rfl, q⟩
    · cases e
  · rintro ⟨x, δ1, h1, k, rfl, q⟩
    exact ⟨_, _, ⟨_, _, h1, rfl⟩, q⟩
theorem wT_and {a b : E} {Q : Bool → Loc → Prop} : wT cx (.and a b) δ Q ↔ wT cx a δ fun k δ1 => if k = true then wT cx b δ1 Q else Q false δ1 := by
  unfold wT
  simp only [evT, Option.bind_eq_bind, Option.bind_eq_some_iff, Prod.exists]
  constructor
  · rintro ⟨d, δ', ⟨k, δ1, h1, e⟩, q⟩
    refine ⟨k, δ1, h1, ?_⟩
    cases k with
    | true => rw [if_pos rfl] at e ⊢; exact ⟨_, _, e, q⟩
    | false => rw [if_neg Bool.false_ne_true] at e ⊢; cases e; exact q
  · rintro ⟨k, δ1, h1, q⟩
    cases k with
    | true => rw [if_pos rfl] at q; obtain ⟨d, δ', e, q⟩ := q; exact ⟨d, δ', ⟨_, _, h1, e⟩, q⟩
    | false => rw [if_neg Bool.false_ne_true] at q; exact ⟨_, _, ⟨_, _, h1, rfl⟩, q⟩
theorem wT_or {a b : E} {Q : Bool → Loc → Prop} : wT cx (.or a b) δ Q ↔ wT cx a δ fun k δ1 => if k = true then Q true δ1 else wT cx b δ1 Q := by
  unfold wT
  simp only [evT, Option.bind_eq_bind, Option.bind_eq_some_iff, Prod.exists]
  constructor
  · rintro ⟨d, δ', ⟨k, δ1, h1, e⟩, q⟩
    refine ⟨k, δ1, h1, ?_⟩
    cases k with
    | true => rw [if_pos rfl] at e ⊢; cases e; exact q
    | false => rw [if_neg Bool.false_ne_true] at e ⊢; exact ⟨_, _, e, q⟩
  · rintro ⟨k, δ1, h1, q⟩
    cases k with
    | true => rw [if_pos rfl] at q; exact ⟨_, _, ⟨_, _, h1, rfl⟩, q⟩
    | false => rw [if_neg Bool.false_ne_true] at q; obtain ⟨d, δ', e, q⟩ := q; exact ⟨d, δ', ⟨_, _, h1, e⟩, q⟩
theorem wT_not {a : E} {Q : Bool → Loc → Prop} : wT cx (.not a) δ Q ↔ wT cx a δ fun k δ1 => Q (!k) δ1 := by
  unfold wT
  simp only [evT, Option.bind_eq_bind, Option.bind_eq_some_iff, Option.pure_def, Prod.exists]
  constructor
  · rintro ⟨d, δ', ⟨x, δ1, h1, e⟩, q⟩
    cases e
    exact ⟨_, _, h1, q⟩
  · rintro ⟨x, δ1, h1, q⟩
    exact ⟨_, _, ⟨_, _, h1, rfl⟩, q⟩
theorem wT_var {i : Nat} {Q : Bool → Loc → Prop} : wT cx (.var i) δ Q ↔ wGet δ i fun d => wTv d fun b => Q b δ := by
  unfold wT wGet wTv
  simp only [evT, Option.bind_eq_bind, Option.bind_eq_some_iff, Option.pure_def]
  constructor
  · rintro ⟨d, δ', ⟨z, h, b, h2, e⟩, q⟩
    cases e
    exact ⟨_, h, _, h2, q⟩
  · rintro ⟨z, h, b, h2, q⟩
    exact ⟨_, _, ⟨z, h, b, h2, rfl⟩, q⟩
theorem wT_pk {i : Nat} {Q : Bool → Loc → Prop} : wT cx (.pk i) δ Q ↔ wGet δ i fun d => wTv d fun b => Q b δ := by
  unfold wT wGet wTv
  simp only [evT, Option.bind_eq_bind, Option.bind_eq_some_iff, Option.pure_def]
  constructor
  · rintro ⟨d, δ', ⟨z, h, b, h2, e⟩, q⟩
    cases e
    exact ⟨_, h, _, h2, q⟩
  · rintro ⟨z, h, b, h2, q⟩
    exact ⟨_, _, ⟨z, h, b, h2, rfl⟩, q⟩
theorem wT_call {f : Nat} {es : Es} {Q : Bool → Loc → Prop} : wT cx (.call f es) δ Q ↔ wEs cx es δ fun ds δ1 => wCall cx f ds fun d => wTv d fun b => Q b δ1 := by
  unfold wT wEs wCall wTv
  simp only [evT, Option.bind_eq_bind, Option.bind_eq_some_iff, Option.pure_def, Prod.exists]
  constructor
  · rintro ⟨d, δ', ⟨z, δ1, h, b, h2, t, h3, e⟩, q⟩
    cases e
    exact ⟨_, _, h, _, h2, _, h3, q⟩
  · rintro ⟨z, δ1, h, b, h2, t, h3, q⟩
    exact ⟨_, _, ⟨z, δ1, h, b, h2, t, h3, rfl⟩, q⟩
theorem wT_blt {f : Blt} {es : Es} {Q : Bool → Loc → Prop} : wT cx (.blt f es) δ Q ↔ wEs cx es δ fun ds δ1 => wBlt f ds fun d => wTv d fun b => Q b δ1 := by
  unfold wT wEs wBlt wTv
  simp only [evT, Option.bind_eq_bind, Option.bind_eq_some_iff, Option.pure_def, Prod.exists]
  constructor
  · rintro ⟨d, δ', ⟨z, δ1, h, b, h2, t, h3, e⟩, q⟩
    cases e
    exact ⟨_, _, h, _, h2, _, h3, q⟩
  · rintro ⟨z, δ1, h, b, h2, t, h3, q⟩
    exact ⟨_, _, ⟨z, δ1, h, b, h2, t, h3, rfl⟩, q⟩
theorem wE_ite {c a b : E} {Q : D → Loc → Prop} : wE cx (.ite c a b) δ Q ↔ wT cx c δ fun k δ1 => if k = true then wE cx a δ1 Q else wE cx b δ1 Q := by
  unfold wE wT
  simp only [evE, Option.bind_eq_bind, Option.bind_eq_some_iff, Prod.exists]
  constructor
  · rintro ⟨d, δ', ⟨k, δ1, h1, e⟩, q⟩
    refine ⟨k, δ1, h1, ?_⟩
    cases k with
    | true => rw [if_pos rfl] at e ⊢; exact ⟨_, _, e, q⟩
    | false => rw [if_neg Bool.false_ne_true] at e ⊢; exact ⟨_, _, e, q⟩
  · rintro ⟨k, δ1, h1, q⟩
    cases k with
    | true => rw [if_pos rfl] at q; obtain ⟨d, δ', e, q⟩ := q; exact ⟨d, δ', ⟨_, _, h1, e⟩, q⟩
    | false => rw [if_neg Bool.false_ne_true] at q; obtain ⟨d, δ', e, q⟩ := q; exact ⟨d, δ', ⟨_, _, h1, e⟩, q⟩
theorem wE_tup {es : Es} {Q : D → Loc → Prop} : wE cx (.tup es) δ Q ↔ wEs cx es δ fun ds δ1 => ds.length ≤ sizeLine ∧ Q (.tup ds) δ1 := by
  unfold wE wEs
  simp only [evE, Option.bind_eq_bind, Option.bind_eq_some_iff, Prod.exists]
  constructor
  · rintro ⟨d, δ', ⟨ds, δ1, h1, e⟩, q⟩
    split at e
    · cases e; exact ⟨ds, _, h1, ‹_›, q⟩
    · cases e
  · rintro ⟨ds, δ1, h1, h, q⟩
    exact ⟨_, _, ⟨_, _, h1, by rw [if_pos h]; rfl⟩, q⟩
theorem wE_lst {es : Es} {Q : D → Loc → Prop} : wE cx (.lst es) δ Q ↔ wEs cx es δ fun ds δ1 => ds.length ≤ sizeLine ∧ Q (.lst ds) δ1 := by
  unfold wE wEs
  simp only [evE, Option.bind_eq_bind, Option.bind_eq_some_iff, Prod.exists]
  constructor
  · rintro ⟨d, δ', ⟨ds, δ1, h1, e⟩, q⟩
    split at e
    · cases e; exact ⟨ds, _, h1, ‹_›, q⟩
    · cases e
  · rintro ⟨ds, δ1, h1, h, q⟩
    exact ⟨_, _, ⟨_, _, h1, by rw [if_pos h]; rfl⟩, q⟩
theorem wE_ix {a b : E} {Q : D → Loc → Prop} : wE cx (.ix a b) δ Q ↔ wE cx a δ fun x δ1 => wE cx b δ1 fun y δ2 => wIx x y fun z => Q z δ2 := by
  unfold wE wIx
  simp only [evE, Option.bind_eq_bind, Option.bind_eq_some_iff, Option.pure_def, Prod.exists]
  constructor
  · rintro ⟨d, δ', ⟨x, δ1, h1, y, δ2, h2, z, h3, e⟩, q⟩
    cases e
    exact ⟨_, _, h1, _, _, h2, _, h3, q⟩
  · rintro ⟨x, δ1, h1, y, δ2, h2, z, h3, q⟩
    exact ⟨_, _, ⟨x, δ1, h1, y, δ2, h2, z, h3, rfl⟩, q⟩
theorem wE_sl {a : E} {lo hi : Eo} {Q : D → Loc → Prop} : wE cx (.sl a lo hi) δ Q ↔ wE cx a δ fun x δ1 => wO cx lo δ1 fun l δ2 => wO cx hi δ2 fun h δ3 => wSl x l h fun z => Q z δ3 := by
  unfold wE wO wSl
  simp only [evE, Option.bind_eq_bind, Option.bind_eq_some_iff, Option.pure_def, Prod.exists]
  constructor
  · rintro ⟨d, δ', ⟨x, δ1, h1, y, δ2, h2, u, δ3, h3, z, h4, e⟩, q⟩
    cases e
    exact ⟨_, _, h1, _, _, h2, _, _, h3, _, h4, q⟩
  · rintro ⟨x, δ1, h1, y, δ2, h2, u, δ3, h3, z, h4, q⟩
    exact ⟨_, _, ⟨x, δ1, h1, y, δ2, h2, u, δ3, h3, z, h4, rfl⟩, q⟩
theorem wE_call {f : Nat} {es : Es} {Q : D → Loc → Prop} : wE cx (.call f es) δ Q ↔ wEs cx es δ fun ds δ1 => wCall cx f ds fun z => Q z δ1 := by
  unfold wE wEs wCall
  simp only [evE, Option.bind_eq_bind, Option.bind_eq_some_iff, Option.pure_def, Prod.exists]
  constructor
  · rintro ⟨d, δ', ⟨x, δ1, h1, z, h3, e⟩, q⟩
    cases e
    exact ⟨_, _, h1, _, h3, q⟩
  · rintro ⟨x, δ1, h1, z, h3, q⟩
    exact ⟨_, _, ⟨x, δ1, h1, z, h3, rfl⟩, q⟩
theorem wE_blt {f : Blt} {es : Es} {Q : D → Loc → Prop} : wE cx (.blt f es) δ Q ↔ wEs cx es δ fun ds δ1 => wBlt f ds fun z => Q z δ1 := by
  unfold wE wEs wBlt
  simp only [evE, Option.bind_eq_bind, Option.bind_eq_some_iff, Option.pure_def, Prod.exists]
  constructor
  · rintro ⟨d, δ', ⟨x, δ1, h1, z, h3, e⟩, q⟩
    cases e
    exact ⟨_, _, h1, _, h3, q⟩
  · rintro ⟨x, δ1, h1, z, h3, q⟩
    exact ⟨_, _, ⟨x, δ1, h1, z, h3, rfl⟩, q⟩
theorem wEs_nil {Q : List D → Loc → Prop} : wEs cx .nil δ Q ↔ Q [] δ := by
  unfold wEs
  exact ⟨fun ⟨_, _, e, q⟩ => by simp only [evEs] at e; cases e; exact q, fun q => ⟨_, _, by simp only [evEs], q⟩⟩
theorem wEs_cons {e : E} {es : Es} {Q : List D → Loc → Prop} : wEs cx (.cons e es) δ Q ↔ wE cx e δ fun x δ1 => wEs cx es δ1 fun xs δ2 => Q (x :: xs) δ2 := by
  unfold wE wEs
  simp only [evEs, Option.bind_eq_bind, Option.bind_eq_some_iff, Option.pure_def, Prod.exists]
  constructor
  · rintro ⟨d, δ', ⟨x, δ1, h1, y, δ2, h2, e⟩, q⟩
    cases e
    exact ⟨_, _, h1, _, _, h2, q⟩
  · rintro ⟨x, δ1, h1, y, δ2, h2, q⟩
    exact ⟨_, _, ⟨x, δ1, h1, y, δ2, h2, rfl⟩, q⟩
theorem wO_no {Q : Option Int → Loc → Prop} : wO cx .no δ Q ↔ Q none δ := by
  unfold wO
  exact ⟨fun ⟨_, _, e, q⟩ => by simp only [evO] at e; cases e; exact q, fun q => ⟨_, _, by simp only [evO], q⟩⟩
theorem wO_yes {e : E} {Q : Option Int → Loc → Prop} : wO cx (.yes e) δ Q ↔ wE cx e δ fun x δ1 => ∃ i, x = .int i ∧ Q (some i) δ1 := by
  unfold wO wE
  simp only [evO, Option.bind_eq_bind, Option.bind_eq_some_iff, Prod.exists]
  constructor
  · rintro ⟨d, δ', ⟨x, δ1, h1, e⟩, q⟩
    refine ⟨x, δ1, h1, ?_⟩
    split at e
    · rename_i h; cases h; cases e; exact ⟨_, rfl, q⟩
    · cases e
  · rintro ⟨x, δ1, h1, k, rfl, q⟩
    exact ⟨_, _, ⟨_, _, h1, rfl⟩, q⟩
theorem wG_no {Q : Bool → Loc → Prop} : wG cx .no δ Q ↔ Q true δ := by
  unfold wG
  exact ⟨fun ⟨_, _, e, q⟩ => by simp only [evG] at e; cases e; exact q, fun q => ⟨_, _, by simp only [evG], q⟩⟩
theorem wG_yes {e : E} {Q : Bool → Loc → Prop} : wG cx (.yes e) δ Q ↔ wT cx e δ Q := by
  unfold wG wT
  simp only [evG]
theorem wI_rng {e : E} {Q : List D → Loc → Prop} : wI cx (.rng e) δ Q ↔ wE cx e δ fun x δ1 => ∃ j, x = .int j ∧ (-(2 ^ 62) ≤ j ∧ j < 2 ^ 62) ∧ Q (rngD 0 j.toNat) δ1 := by
  unfold wI wE
  simp only [evI, Option.bind_eq_bind, Option.bind_eq_some_iff, Prod.exists]
  constructor
  · rintro ⟨d, δ', ⟨x, δ1, h1, e⟩, q⟩
    refine ⟨x, δ1, h1, ?_⟩
    split at e
    · rename_i h
      cases h
      split at e
      · cases e; exact ⟨_, rfl, ‹_›, q⟩
      · cases e
    · cases e
  · rintro ⟨x, δ1, h1, k, rfl, h, q⟩
    exact ⟨_, _, ⟨_, _, h1, by dsimp only; rw [if_pos h]⟩, q⟩
theorem wI_sq {e : E} {Q : List D → Loc → Prop} : wI cx (.sq e) δ Q ↔ wE cx e δ fun x δ1 => wItems x fun ds => Q ds δ1 := by
  unfold wI wE wItems
  simp only [evI, Option.bind_eq_bind, Option.bind_eq_some_iff, Option.pure_def, Prod.exists]
  constructor
  · rintro ⟨d, δ', ⟨x, δ1, h1, z, h3, e⟩, q⟩
    cases e
    exact ⟨_, _, h1, _, h3, q⟩
  · rintro ⟨x, δ1, h1, z, h3, q⟩
    exact ⟨_, _, ⟨x, δ1, h1, z, h3, rfl⟩, q⟩
theorem wE_comp {k : Nat} {tg : Tg} {src : It} {ifs : Eo} {elt : E} {Q : D → Loc → Prop} : wE cx (.comp k tg src ifs elt) δ Q ↔ wI cx src δ fun ds δ1 => wComp cx k tg ifs elt ds δ1 fun ys δ2 => ys.length ≤ sizeLine ∧ Q (.lst ys) δ2 := by
  unfold wE wI wComp
  simp only [evE, Option.bind_eq_bind, Option.bind_eq_some_iff, Prod.exists]
  constructor
  · rintro ⟨d, δ', ⟨ds, δ1, h1, ys, δ2, h2, e⟩, q⟩
    split at e
    · cases e; exact ⟨ds, _, h1, ys, _, h2, ‹_›, q⟩
    · cases e
  · rintro ⟨ds, δ1, h1, ys, δ2, h2, h, q⟩
    exact ⟨_, _, ⟨_, _, h1, _, _, h2, by rw [if_pos h]; rfl⟩, q⟩
theorem wComp_nil {k : Nat} {tg : Tg} {ifs : Eo} {elt : E} {Q : List D → Loc → Prop} : wComp cx k tg ifs elt [] δ Q ↔ Q [] δ := by
  unfold wComp
  exact ⟨fun ⟨_, _, e, q⟩ => by simp only [compL] at e; cases e; exact q, fun q => ⟨_, _, by simp only [compL], q⟩⟩
theorem wComp_cons {k : Nat} {tg : Tg} {ifs : Eo} {elt : E} {x : D} {xs : List D} {Q : List D → Loc → Prop} : wComp cx k tg ifs elt (x :: xs) δ Q ↔ wTg (δ ++ List.replicate k .no) tg x fun δ2 => wG cx ifs δ2 fun b δ3 =>
    if b = true then wE cx elt δ3 fun y δ4 => wComp cx k tg ifs elt xs (δ4.take δ.length) fun ys δ5 => Q (y :: ys) δ5 else wComp cx k tg ifs elt xs (δ3.take δ.length) Q := by
  unfold wComp wTg wG wE
  simp only [compL, turnF, Option.bind_eq_bind, Option.bind_eq_some_iff, Option.pure_def, Prod.exists]
  constructor
  · rintro ⟨zs, δ', ⟨o, δa, ⟨δ2, h1, b, δ3, h2, h3⟩, ys, δ5, h4, e⟩, q⟩
    refine ⟨δ2, h1, b, δ3, h2, ?_⟩
    cases b with
    | true =>
      rw [if_pos rfl] at h3 ⊢
      simp only [Option.bind_eq_some_iff, Prod.exists] at h3
      obtain ⟨y, δ4, h5, e2⟩ := h3
      cases e2
      cases e
      exact ⟨y, δ4, h5, ys, _, h4, q⟩
    | false =>
      rw [if_neg Bool.false_ne_true] at h3 ⊢
      cases h3
      cases e
      exact ⟨ys, _, h4, q⟩
  · rintro ⟨δ2, h1, b, δ3, h2, h3⟩
    cases b with
    | true =>
      rw [if_pos rfl] at h3
      obtain ⟨y, δ4, h5, ys, δ5, h4, q⟩ := h3
      exact ⟨_, _, ⟨some y, _, ⟨δ2, h1, true, δ3, h2, by rw [if_pos rfl]; simp only [Option.bind_eq_some_iff, Prod.exists]; exact ⟨y, δ4, h5, rfl⟩⟩, ys, δ5, h4, rfl⟩, q⟩
    | false =>
      rw [if_neg Bool.false_ne_true] at h3
      obtain ⟨ys, δ5, h4, q⟩ := h3
      exact ⟨_, _, ⟨none, _, ⟨δ2, h1, false, δ3, h2, by rw [if_neg Bool.false_ne_true]⟩, ys, δ5, h4, rfl⟩, q⟩
end
end PP
end
section
namespace PP
open PySem
section
variable (cx : Cl)
noncomputable def thenS (ss : Ss) (Q : Out → Prop) : Out → Prop
  | .nx δ => wSs cx ss δ Q
  | .rt d δ => Q (.rt d δ)
  | .bk δ => Q (.bk δ)
  | .ct δ => Q (.ct δ)
  | .ro d δ => Q (.ro d δ)
end
noncomputable def loopS (next : Loc → Prop) (Q : Out → Prop) : Out → Prop
  | .nx δ => next δ
  | .ct δ => next δ
  | .bk δ => Q (.nx δ)
  | .rt d δ => Q (.rt d δ)
  | .ro d δ => Q (.ro d δ)
noncomputable def wSet (δ : Loc) (i : Nat) (s : Sl) (Q : Loc → Prop) : Prop := i < δ.length ∧ Q (δ.set i s)
noncomputable def wZip (pre δ : Loc) (i : Nat) (s : Sl) (Q : Loc → Prop) : Prop := i < δ.length ∧ Q (pre.reverse ++ δ.set i s)
noncomputable def wPut (δ : Loc) (i : Nat) (s : Sl) (Q : Loc → Prop) : Prop := Q (δ.set i s)
noncomputable def wPutZ (pre δ : Loc) (i : Nat) (s : Sl) (Q : Loc → Prop) : Prop := Q (pre.reverse ++ δ.set i s)
noncomputable def wRev (pre δ : Loc) (Q : Loc → Prop) : Prop := Q (pre.reverse ++ δ)
noncomputable def wVar (δ0 : Loc) (j : Nat) (δ : Loc) (i : Nat) (Q : D → Loc → Prop) : Prop := match δ[i]? with
  | some (.val d) => Q d δ0
  | some (.own ds) => Q (.lst ds) (δ0.set j (.val (.lst ds)))
  | _ => False
noncomputable def wOwn (δ : Loc) (i : Nat) (Q : List D → Prop) : Prop := match δ[i]? with
  | some (.own ds) => Q ds
  | _ => False
noncomputable def wVal (δ : Loc) (i : Nat) (Q : D → Prop) : Prop := match δ[i]? with
  | some (.val d) => Q d
  | _ => False
section
variable {cx : Cl} {δ pre : Loc}
theorem thenS_nx {ss : Ss} {Q : Out → Prop} : thenS cx ss Q (.nx δ) ↔ wSs cx ss δ Q := Iff.rfl
theorem thenS_rt {ss : Ss} {Q : Out → Prop} {d : D} : thenS cx ss Q (.rt d δ) ↔ Q (.rt d δ) := Iff.rfl
theorem thenS_bk {ss : Ss} {Q : Out → Prop} : thenS cx ss Q (.bk δ) ↔ Q (.bk δ) := Iff.rfl
theorem thenS_ct {ss : Ss} {Q : Out → Prop} : thenS cx ss Q (.ct δ) ↔ Q (.ct δ) := Iff.rfl
theorem loopS_nx {n : Loc → Prop} {Q : Out → Prop} : loopS n Q (.nx δ) ↔ n δ := Iff.rfl
theorem loopS_ct {n : Loc → Prop} {Q : Out → Prop} : loopS n Q (.ct δ) ↔ n δ := Iff.rfl
theorem loopS_bk {n : Loc → Prop} {Q : Out → Prop} : loopS n Q (.bk δ) ↔ Q (.nx δ) := Iff.rfl
theorem loopS_rt {n : Loc → Prop} {Q : Out → Prop} {d : D} : loopS n Q (.rt d δ) ↔ Q (.rt d δ) := Iff.rfl
theorem wSet_zip {i : Nat} {s : Sl} {Q : Loc → Prop} : wSet δ i s Q ↔ wZip [] δ i s Q := by simp [wSet, wZip]
theorem wZip_succ {i : Nat} {s t : Sl} {Q : Loc → Prop} : wZip pre (t :: δ) (i + 1) s Q ↔ wZip (t :: pre) δ i s Q := by simp [wZip]
theorem wZip_zero {s t : Sl} {Q : Loc → Prop} : wZip pre (t :: δ) 0 s Q ↔ wRev pre (s :: δ) Q := by simp [wZip, wRev]
theorem wPut_zip {i : Nat} {s : Sl} {Q : Loc → Prop} : wPut δ i s Q ↔ wPutZ [] δ i s Q := by simp [wPut, wPutZ]
theorem wPutZ_succ {i : Nat} {s t : Sl} {Q : Loc → Prop} : wPutZ pre (t :: δ) (i + 1) s Q ↔ wPutZ (t :: pre) δ i s Q := by simp [wPutZ]
theorem wPutZ_zero {s t : Sl} {Q : Loc → Prop} : wPutZ pre (t :: δ) 0 s Q ↔ wRev pre (s :: δ) Q := by simp [wPutZ, wRev]
theorem wRev_cons {t : Sl} {Q : Loc → Prop} : wRev (t :: pre) δ Q ↔ wRev pre (t :: δ) Q := by simp [wRev]
theorem wRev_nil {Q : Loc → Prop} : wRev [] δ Q ↔ Q δ := by simp [wRev]
theorem wVar_succ {δ0 : Loc} {i j : Nat} {t : Sl} {Q : D → Loc → Prop} : wVar δ0 j (t :: δ) (i + 1) Q ↔ wVar δ0 j δ i Q := by simp [wVar]
theorem wVar_val {δ0 : Loc} {j : Nat} {d : D} {Q : D → Loc → Prop} : wVar δ0 j (.val d :: δ) 0 Q ↔ Q d δ0 := by simp [wVar]
theorem wVar_own {δ0 : Loc} {j : Nat} {ds : List D} {Q : D → Loc → Prop} : wVar δ0 j (.own ds :: δ) 0 Q ↔ wPut δ0 j (.val (.lst ds)) fun δ1 => Q (.lst ds) δ1 := by simp [wVar, wPut]
theorem wGet_succ {i : Nat} {t : Sl} {Q : D → Prop} : wGet (t :: δ) (i + 1) Q ↔ wGet δ i Q := by simp [wGet, PP.get]
theorem wGet_val {d : D} {Q : D → Prop} : wGet (.val d :: δ) 0 Q ↔ Q d := by simp [wGet, PP.get]
theorem wGet_own {ds : List D} {Q : D → Prop} : wGet (.own ds :: δ) 0 Q ↔ Q (.lst ds) := by simp [wGet, PP.get]
theorem wOwn_succ {i : Nat} {t : Sl} {Q : List D → Prop} : wOwn (t :: δ) (i + 1) Q ↔ wOwn δ i Q := by simp [wOwn]
theorem wOwn_own {ds : List D} {Q : List D → Prop} : wOwn (.own ds :: δ) 0 Q ↔ Q ds := by simp [wOwn]
theorem wVal_succ {i : Nat} {t : Sl} {Q : D → Prop} : wVal (t :: δ) (i + 1) Q ↔ wVal δ i Q := by simp [wVal]
theorem wVal_val {d : D} {Q : D → Prop} : wVal (.val d :: δ) 0 Q ↔ Q d := by simp [wVal]
theorem wE_var' {i : Nat} {Q : D → Loc → Prop} : wE cx (.var i) δ Q ↔ wVar δ i δ i Q := by
  rw [wE_var]
  unfold wGet wVar PP.get demote
  cases h : δ[i]? with
  | none => simp
  | some s => cases s <;> simp
theorem wSs_nil {Q : Out → Prop} : wSs cx .nil δ Q ↔ Q (.nx δ) := by
  unfold wSs
  exact ⟨fun ⟨_, e, q⟩ => by simp only [evSs] at e; cases e; exact q, fun q => ⟨_, by simp only [evSs], q⟩⟩
theorem wSs_cons {s : S} {ss : Ss} {Q : Out → Prop} : wSs cx (.cons s ss) δ Q ↔ wS cx s δ (thenS cx ss Q) := by
  unfold wSs wS
  simp only [evSs]
  constructor
  · rintro ⟨o, e, q⟩
    cases h : evS cx s δ with
    | none => rw [h] at e; cases e
    | some o1 =>
      rw [h] at e
      refine ⟨o1, rfl, ?_⟩
      cases o1 with
      | nx δ1 => exact ⟨o, e, q⟩
      | rt d δ1 => cases e; exact q
      | ro d δ1 => cases e; exact q
      | bk δ1 => cases e; exact q
      | ct δ1 => cases e; exact q
  · rintro ⟨o1, h, q⟩
    cases o1 with
    | nx δ1 =>
      obtain ⟨o, e, q⟩ := q
      exact ⟨o, by rw [h]; exact e, q⟩
    | rt d δ1 => exact ⟨_, by rw [h], q⟩
    | ro d δ1 => exact ⟨_, by rw [h], q⟩
    | bk δ1 => exact ⟨_, by rw [h], q⟩
    | ct δ1 => exact ⟨_, by rw [h], q⟩
theorem wS_asg {tg : Tg} {e : E} {Q : Out → Prop} : wS cx (.asg tg e) δ Q ↔ wE cx e δ fun d δ1 => wTg δ1 tg d fun δ2 => Q (.nx δ2) := by
  unfold wS wE wTg
  simp only [evS, Option.bind_eq_bind, Option.bind_eq_some_iff, Option.pure_def, Prod.exists]
  constructor
  · rintro ⟨o, ⟨d, δ1, h1, δ2, h2, e⟩, q⟩
    cases e
    exact ⟨_, _, h1, _, h2, q⟩
  · rintro ⟨d, δ1, h1, δ2, h2, q⟩
    exact ⟨_, ⟨_, _, h1, _, h2, rfl⟩, q⟩
theorem wTg_nm {i : Nat} {d : D} {Q : Loc → Prop} : wTg δ (.nm i) d Q ↔ wSet δ i (.val d) Q := by
  unfold wTg wSet setTg
  constructor
  · rintro ⟨δ', e, q⟩
    dsimp only at e
    split at e
    · cases e; exact ⟨‹_›, q⟩
    · cases e
  · rintro ⟨h, q⟩
    exact ⟨_, by dsimp only; rw [if_pos h], q⟩
theorem wTg_tp {is : List Nat} {ds : List D} {Q : Loc → Prop} : wTg δ (.tp is) (.tup ds) Q ↔ (is.length = ds.length ∧ is.all (· < δ.length) = true) ∧ Q ((is.zip ds).foldl (fun δ p => δ.set p.1 (.val p.2)) δ) := by
  unfold wTg setTg
  constructor
  · rintro ⟨δ', e, q⟩
    dsimp only at e
    split at e
    · cases e; exact ⟨‹_›, q⟩
    · cases e
  · rintro ⟨h, q⟩
    exact ⟨_, by dsimp only; rw [if_pos h], q⟩
theorem wS_new {i : Nat} {e : E} {Q : Out → Prop} : wS cx (.new i e) δ Q ↔ wE cx e δ fun d δ1 => ∃ ds, d = .lst ds ∧ wSet δ1 i (.own ds) fun δ2 => Q (.nx δ2) := by
  unfold wS wE wSet
  simp only [evS, Option.bind_eq_bind, Option.bind_eq_some_iff, Prod.exists]
  constructor
  · rintro ⟨o, ⟨d, δ1, h1, e⟩, q⟩
    refine ⟨d, δ1, h1, ?_⟩
    split at e
    · rename_i h
      cases h
      split at e
      · cases e; exact ⟨_, rfl, ‹_›, q⟩
      · cases e
    · cases e
  · rintro ⟨d, δ1, h1, ds, rfl, h, q⟩
    exact ⟨_, ⟨_, _, h1, by dsimp only; rw [if_pos h]⟩, q⟩
theorem wS_cmp {own : Bool} {i : Nat} {e : E} {Q : Out → Prop} : wS cx (.cmp own i e) δ Q ↔ wE cx e δ fun d δ1 => ∃ ds, d = .lst ds ∧ wSet δ1 i (bif own then .own ds else .val (.lst ds)) fun δ2 => Q (.nx δ2) := by
  unfold wS wE wSet
  simp only [evS, Option.bind_eq_bind, Option.bind_eq_some_iff, Prod.exists]
  constructor
  · rintro ⟨o, ⟨d, δ1, h1, e⟩, q⟩
    refine ⟨d, δ1, h1, ?_⟩
    split at e
    · rename_i h
      cases h
      split at e
      · cases e; exact ⟨_, rfl, ‹_›, by cases own <;> exact q⟩
      · cases e
    · cases e
  · rintro ⟨d, δ1, h1, ds, rfl, h, q⟩
    exact ⟨_, ⟨_, _, h1, by dsimp only; rw [if_pos h]⟩, by cases own <;> exact q⟩
theorem wS_cmpT {i : Nat} {e : E} {Q : Out → Prop} : wS cx (.cmp true i e) δ Q ↔ wE cx e δ fun d δ1 => ∃ ds, d = .lst ds ∧ wSet δ1 i (.own ds) fun δ2 => Q (.nx δ2) := wS_cmp
theorem wS_cmpF {i : Nat} {e : E} {Q : Out → Prop} : wS cx (.cmp false i e) δ Q ↔ wE cx e δ fun d δ1 => ∃ ds, d = .lst ds ∧ wSet δ1 i (.val (.lst ds)) fun δ2 => Q (.nx δ2) := wS_cmp
theorem wS_augA {i : Nat} {e : E} {Q : Out → Prop} : wS cx (.aug i .add e) δ Q ↔ wVal δ i fun x => wE cx e δ fun y δ1 => ∃ a b, x = .int a ∧ y = .int b ∧ wPut δ1 i (.val (.int (a + b))) fun δ2 => Q (.nx δ2) := by
  unfold wS wE wVal wPut
  simp only [evS]
  cases h : δ[i]? with
  | none => simp
  | some s =>
    cases s with
    | no => simp
    | fnc _ _ => simp
    | own _ => simp
    | val x =>
      simp only [Option.bind_eq_bind, Option.bind_eq_some_iff, Prod.exists]
      constructor
      · rintro ⟨o, ⟨d, δ1, h1, e⟩, q⟩
        refine ⟨d, δ1, h1, ?_⟩
        try dsimp only at e
        split at e
        · cases e; exact ⟨_, _, rfl, rfl, q⟩
        · rename_i z; cases z
        · cases e
      · rintro ⟨d, δ1, h1, a, b, rfl, rfl, q⟩
        exact ⟨_, ⟨_, _, h1, rfl⟩, q⟩
theorem wS_ret {e : E} {Q : Out → Prop} : wS cx (.ret e) δ Q ↔ wE cx e δ fun d δ1 => Q (.rt d δ1) := by
  unfold wS wE
  simp only [evS, Option.bind_eq_bind, Option.bind_eq_some_iff, Option.pure_def, Prod.exists]
  constructor
  · rintro ⟨o, ⟨d, δ1, h1, e⟩, q⟩
    cases e
    exact ⟨_, _, h1, q⟩
  · rintro ⟨d, δ1, h1, q⟩
    exact ⟨_, ⟨_, _, h1, rfl⟩, q⟩
theorem wS_retN {Q : Out → Prop} : wS cx .retN δ Q ↔ Q (.rt .non δ) := by
  unfold wS
  exact ⟨fun ⟨_, e, q⟩ => by simp only [evS] at e; cases e; exact q, fun q => ⟨_, by simp only [evS], q⟩⟩
theorem wS_pass {Q : Out → Prop} : wS cx .pass δ Q ↔ Q (.nx δ) := by
  unfold wS
  exact ⟨fun ⟨_, e, q⟩ => by simp only [evS] at e; cases e; exact q, fun q => ⟨_, by simp only [evS], q⟩⟩
theorem wS_brk {Q : Out → Prop} : wS cx .brk δ Q ↔ Q (.bk δ) := by
  unfold wS
  exact ⟨fun ⟨_, e, q⟩ => by simp only [evS] at e; cases e; exact q, fun q => ⟨_, by simp only [evS], q⟩⟩
theorem wS_cont {Q : Out → Prop} : wS cx .cont δ Q ↔ Q (.ct δ) := by
  unfold wS
  exact ⟨fun ⟨_, e, q⟩ => by simp only [evS] at e; cases e; exact q, fun q => ⟨_, by simp only [evS], q⟩⟩
theorem wS_ifs {c : E} {a b : Ss} {Q : Out → Prop} : wS cx (.ifs c a b) δ Q ↔ wT cx c δ fun k δ1 => if k = true then wSs cx a δ1 Q else wSs cx b δ1 Q := by
  unfold wS wT wSs
  simp only [evS, Option.bind_eq_bind, Option.bind_eq_some_iff, Prod.exists]
  constructor
  · rintro ⟨o, ⟨k, δ1, h1, e⟩, q⟩
    refine ⟨k, δ1, h1, ?_⟩
    cases k with
    | true => rw [if_pos rfl] at e ⊢; exact ⟨_, e, q⟩
    | false => rw [if_neg Bool.false_ne_true] at e ⊢; exact ⟨_, e, q⟩
  · rintro ⟨k, δ1, h1, q⟩
    cases k with
    | true => rw [if_pos rfl] at q; obtain ⟨o, e, q⟩ := q; exact ⟨o, ⟨_, _, h1, e⟩, q⟩
    | false => rw [if_neg Bool.false_ne_true] at q; obtain ⟨o, e, q⟩ := q; exact ⟨o, ⟨_, _, h1, e⟩, q⟩
theorem wS_for {tg : Tg} {src : It} {body : Ss} {Q : Out → Prop} : wS cx (.for_ tg src body) δ Q ↔ wI cx src δ fun ds δ1 => wFor cx tg body ds δ1 Q := by
  unfold wS wI wFor
  simp only [evS, Option.bind_eq_bind, Option.bind_eq_some_iff, Prod.exists]
  constructor
  · rintro ⟨o, ⟨ds, δ1, h1, e⟩, q⟩
    exact ⟨ds, δ1, h1, o, e, q⟩
  · rintro ⟨ds, δ1, h1, o, e, q⟩
    exact ⟨o, ⟨ds, δ1, h1, e⟩, q⟩
theorem wS_while {c : E} {body : Ss} {Q : Out → Prop} : wS cx (.while_ c body) δ Q ↔ wWhile cx c body 1000 δ Q := by
  unfold wS wWhile
  simp only [evS]
theorem wS_append {i : Nat} {e : E} {Q : Out → Prop} : wS cx (.append i e) δ Q ↔ wOwn δ i fun _ => wE cx e δ fun d δ1 => wOwn δ1 i fun ds => ds.length < sizeLine ∧ wSet δ1 i (.own (ds ++ [d])) fun δ2 => Q (.nx δ2) := by
  unfold wS wE wOwn wSet
  simp only [evS]
  cases h : δ[i]? with
  | none => simp
  | some s =>
    cases s with
    | no => simp
    | fnc _ _ => simp
    | val _ => simp
    | own ds0 =>
      simp only [Option.bind_eq_bind, Option.bind_eq_some_iff, Prod.exists]
      constructor
      · rintro ⟨o, ⟨d, δ1, h1, e⟩, q⟩
        refine ⟨d, δ1, h1, ?_⟩
        try dsimp only at e
        split at e
        · rename_i ds hd
          split at e
          · cases e
            try rw [hd]
            exact ⟨‹_›, (List.getElem?_eq_some_iff.mp hd).1, q⟩
          · cases e
        · cases e
      · rintro ⟨d, δ1, h1, q⟩
        split at q
        · rename_i ds hd
          obtain ⟨z, _, q⟩ := q
          exact ⟨_, ⟨d, δ1, h1, by (try dsimp only); rw [hd]; dsimp only; rw [if_pos z]⟩, q⟩
        · exact q.elim
theorem wFor_nil {tg : Tg} {body : Ss} {Q : Out → Prop} : wFor cx tg body [] δ Q ↔ Q (.nx δ) := by
  unfold wFor
  exact ⟨fun ⟨_, e, q⟩ => by simp only [forL] at e; cases e; exact q, fun q => ⟨_, by simp only [forL], q⟩⟩
theorem wFor_cons {tg : Tg} {body : Ss} {x : D} {xs : List D} {Q : Out → Prop} : wFor cx tg body (x :: xs) δ Q ↔ wTg δ tg x fun δ2 => wSs cx body δ2 (loopS (fun δ3 => wFor cx tg body xs δ3 Q) Q) := by
  unfold wFor wTg wSs
  simp only [forL, forF]
  constructor
  · rintro ⟨o, e, q⟩
    cases h : setTg δ tg x with
    | none => rw [h] at e; cases e
    | some δ2 =>
      rw [h] at e
      refine ⟨δ2, rfl, ?_⟩
      dsimp only at e
      cases h2 : evSs cx body δ2 with
      | none => rw [h2] at e; cases e
      | some o1 =>
        rw [h2] at e
        refine ⟨o1, rfl, ?_⟩
        cases o1 with
        | nx δ1 => exact ⟨o, e, q⟩
        | ct δ1 => exact ⟨o, e, q⟩
        | rt d δ1 => cases e; exact q
        | ro d δ1 => cases e; exact q
        | bk δ1 => cases e; exact q
  · rintro ⟨δ2, h, o1, h2, q⟩
    cases o1 with
    | nx δ1 =>
      obtain ⟨o, e, q⟩ := q
      exact ⟨o, by rw [h]; dsimp only; rw [h2]; exact e, q⟩
    | ct δ1 =>
      obtain ⟨o, e, q⟩ := q
      exact ⟨o, by rw [h]; dsimp only; rw [h2]; exact e, q⟩
    | rt d δ1 => exact ⟨_, by rw [h]; dsimp only; rw [h2], q⟩
    | ro d δ1 => exact ⟨_, by rw [h]; dsimp only; rw [h2], q⟩
    | bk δ1 => exact ⟨_, by rw [h]; dsimp only; rw [h2], q⟩
theorem wWhile_succ {c : E} {body : Ss} {n : Nat} {Q : Out → Prop} : wWhile cx c body (n + 1) δ Q ↔ wT cx c δ fun k δ1 => if k = true then wSs cx body δ1 (loopS (fun δ3 => wWhile cx c body n δ3 Q) Q) else Q (.nx δ1) := by
  unfold wWhile wT wSs
  simp only [whileL]
  constructor
  · rintro ⟨o, e, q⟩
    cases h : evT cx c δ with
    | none => rw [h] at e; cases e
    | some p =>
      obtain ⟨k, δ1⟩ := p
      rw [h] at e
      refine ⟨k, δ1, rfl, ?_⟩
      cases k with
      | false => cases e; rw [if_neg Bool.false_ne_true]; exact q
      | true =>
        rw [if_pos rfl]
        dsimp only at e
        cases h2 : evSs cx body δ1 with
        | none => rw [h2] at e; cases e
        | some o1 =>
          rw [h2] at e
          refine ⟨o1, rfl, ?_⟩
          cases o1 with
          | nx δ1 => exact ⟨o, e, q⟩
          | ct δ1 => exact ⟨o, e, q⟩
          | rt d δ1 => cases e; exact q
          | ro d δ1 => cases e; exact q
          | bk δ1 => cases e; exact q
  · rintro ⟨k, δ1, h, q⟩
    cases k with
    | false => rw [if_neg Bool.false_ne_true] at q; exact ⟨_, by rw [h], q⟩
    | true =>
      rw [if_pos rfl] at q
      obtain ⟨o1, h2, q⟩ := q
      cases o1 with
      | nx δ1 =>
        obtain ⟨o, e, q⟩ := q
        exact ⟨o, by rw [h]; dsimp only; rw [h2]; exact e, q⟩
      | ct δ1 =>
        obtain ⟨o, e, q⟩ := q
        exact ⟨o, by rw [h]; dsimp only; rw [h2]; exact e, q⟩
      | rt d δ1 => exact ⟨_, by rw [h]; dsimp only; rw [h2], q⟩
      | ro d δ1 => exact ⟨_, by rw [h]; dsimp only; rw [h2], q⟩
      | bk δ1 => exact ⟨_, by rw [h]; dsimp only; rw [h2], q⟩
theorem wFor_inv {tg : Tg} {body : Ss} {Q : Out → Prop} (P : List D → Loc → Prop) (step : ∀ x xs δ, P (x :: xs) δ → wTg δ tg x fun δ2 => wSs cx body δ2 (loopS (P xs) Q)) (fin : ∀ δ, P [] δ → Q (.nx δ)) : ∀ (ds : List D) (δ : Loc), P ds δ → wFor cx tg body ds δ Q
  | [], δ, h => wFor_nil.mpr (fin δ h)
  | x :: xs, δ, h => by
    rw [wFor_cons]
    obtain ⟨δ2, e, o, e2, q⟩ := step x xs δ h
    refine ⟨δ2, e, o, e2, ?_⟩
    cases o with
    | nx δ1 => exact wFor_inv P step fin xs δ1 q
    | ct δ1 => exact wFor_inv P step fin xs δ1 q
    | rt d δ1 => exact q
    | ro d δ1 => exact q
    | bk δ1 => exact q
theorem wComp_each {k : Nat} {tg : Tg} {ifs : Eo} {elt : E} {Q : List D → Loc → Prop} (P : D → D → Prop) : ∀ (ds : List D), (∀ x ∈ ds, wTg (δ ++ List.replicate k .no) tg x fun δ2 => wG cx ifs δ2 fun b δ3 => b = true ∧ wE cx elt δ3 fun y δ4 => P x y ∧ δ4.take δ.length = δ) →
    (∀ ys, PySem.Paired P ds ys → Q ys δ) → wComp cx k tg ifs elt ds δ Q
  | [], h, q => wComp_nil.mpr (q [] .nil)
  | x :: xs, h, q => by
    rw [wComp_cons]
    obtain ⟨δ2, e, b, δ3, e2, rfl, y, δ4, e3, p, t⟩ := h x List.mem_cons_self
    refine ⟨δ2, e, true, δ3, e2, ?_⟩
    show if true = true then _ else _
    rw [if_pos rfl]
    refine ⟨y, δ4, e3, ?_⟩
    show wComp cx k tg ifs elt xs (δ4.take δ.length) _
    rw [t]
    exact wComp_each P xs (fun z hz => h z (List.mem_cons_of_mem _ hz)) fun ys r => q (y :: ys) (.cons p r)
end
theorem wOp_addI {a b : Int} {Q : D → Prop} : wOp .add (.int a) (.int b) Q ↔ Q (.int (a + b)) := by simp [wOp, opD, addD]
theorem wOp_subI {a b : Int} {Q : D → Prop} : wOp .sub (.int a) (.int b) Q ↔ Q (.int (a - b)) := by simp [wOp, opD, subD]
theorem wOp_mulI {a b : Int} {Q : D → Prop} : wOp .mul (.int a) (.int b) Q ↔ mulOk a b = true ∧ Q (.int (a * b)) := by
  by_cases h : mulOk a b = true <;> simp [wOp, opD, mulD, h]
theorem wOp_modI {a b : Int} {Q : D → Prop} : wOp .mod (.int a) (.int b) Q ↔ 0 < b ∧ Q (.int (a % b)) := by
  by_cases h : 0 < b <;> simp [wOp, opD, modD, h]
theorem wOp_fdivI {a b : Int} {Q : D → Prop} : wOp .fdiv (.int a) (.int b) Q ↔ (0 < b ∧ b < 1073741824) ∧ Q (.int (a / b)) := by
  by_cases h : 0 < b ∧ b < 1073741824 <;> simp [wOp, opD, fdivD, h]
theorem wOp_addS {a b : Str} {Q : D → Prop} : wOp .add (.str a) (.str b) Q ↔ a.length + b.length ≤ sizeLine ∧ Q (.str (a ++ b)) := by
  by_cases h : a.length + b.length ≤ sizeLine <;> simp [wOp, opD, addD, h]
theorem wOp_addT {a b : List D} {Q : D → Prop} : wOp .add (.tup a) (.tup b) Q ↔ (a ≠ [] ∧ a.length + b.length ≤ sizeLine) ∧ Q (.tup (a ++ b)) := by
  unfold wOp opD addD
  dsimp only
  constructor
  · rintro ⟨z, e, q⟩
    split at e
    · cases e; exact ⟨‹_›, q⟩
    · cases e
  · rintro ⟨h, q⟩
    exact ⟨_, by rw [if_pos h], q⟩
theorem wOp_addL {a b : List D} {Q : D → Prop} : wOp .add (.lst a) (.lst b) Q ↔ a.length + b.length ≤ sizeLine ∧ Q (.lst (a ++ b)) := by
  by_cases h : a.length + b.length ≤ sizeLine <;> simp [wOp, opD, addD, h]
theorem wCmp_lt {a b : Int} {Q : Bool → Prop} : wCmp .lt (.int a) (.int b) Q ↔ Q (decide (a < b)) := by simp [wCmp, cmpD, ordD]
theorem wCmp_gt {a b : Int} {Q : Bool → Prop} : wCmp .gt (.int a) (.int b) Q ↔ Q (decide (b < a)) := by simp [wCmp, cmpD, ordD]
theorem wCmp_eqI {a b : Int} {Q : Bool → Prop} : wCmp .eq (.int a) (.int b) Q ↔ Q (decide (a = b)) := by
  have : eqD (.int a) (.int b) = decide (a = b) := by
    unfold eqD; rfl
  simp [wCmp, cmpD, depOk, kin, dep, this]
theorem wCmp_eqS {a b : Str} {Q : Bool → Prop} : wCmp .eq (.str a) (.str b) Q ↔ Q (a == b) := by
  have : eqD (.str a) (.str b) = (a == b) := by
    unfold eqD; rfl
  simp [wCmp, cmpD, depOk, kin, dep, this]
theorem wCmp_neL {a : List D} {Q : Bool → Prop} : wCmp .ne (.lst a) (.lst []) Q ↔ Q (!a.isEmpty) := by
  have : eqD (.lst a) (.lst []) = a.isEmpty := by
    unfold eqD
    cases a with
    | nil => simp [eqDs]
    | cons x xs => simp [eqDs]
  cases a <;> simp [wCmp, cmpD, depOk, kin, dep, depL, this] <;> (intros; omega)
theorem wCmp_inT {a : D} {ds : List D} {Q : Bool → Prop} : wCmp .isin a (.tup ds) Q ↔ dep a ≤ 150 ∧ Q (ds.any fun y => eqD y a) := by
  by_cases h : dep a ≤ 150 <;> simp [wCmp, cmpD, inD, h]
theorem wBlt_lenL {ds : List D} {Q : D → Prop} : wBlt .len [.lst ds] Q ↔ Q (.int ds.length) := by simp [wBlt, bltD, lenD]
theorem wBlt_lenT {ds : List D} {Q : D → Prop} : wBlt .len [.tup ds] Q ↔ Q (.int ds.length) := by simp [wBlt, bltD, lenD]
theorem wBlt_lenS {x : Str} {Q : D → Prop} : wBlt .len [.str x] Q ↔ x.length ≤ sizeLine ∧ Q (.int x.length) := by
  by_cases h : x.length ≤ sizeLine <;> simp [wBlt, bltD, lenD, h]
theorem wBlt_max {i j : Int} {Q : D → Prop} : wBlt .max [.int i, .int j] Q ↔ Q (.int (if j > i then j else i)) := by simp [wBlt, bltD, maxD]
theorem wBlt_maxL {ds : List D} {Q : D → Prop} : wBlt .max [.lst ds] Q ↔ ∃ ns, intsD ds = some ns ∧ ns ≠ [] ∧ Q (.int (topI ns)) := by
  unfold wBlt
  simp only [bltD, maxD]
  cases h : intsD ds with
  | none => simp
  | some ns => by_cases hn : ns = [] <;> simp [hn]
theorem wBlt_intB {b : Bool} {Q : D → Prop} : wBlt .toInt [.bl b] Q ↔ Q (.int (if b then 1 else 0)) := by simp [wBlt, bltD, toIntD]
theorem wBlt_intI {b : Int} {Q : D → Prop} : wBlt .toInt [.int b] Q ↔ Q (.int b) := by simp [wBlt, bltD, toIntD]
theorem wBlt_str {i : Int} {Q : D → Prop} : wBlt .toStr [.int i] Q ↔ i.natAbs.log2 < 1920 ∧ Q (.str (toString i)) := by
  by_cases h : i.natAbs.log2 < 1920 <;> simp [wBlt, bltD, toStrD, h]
theorem wBlt_tupL {ds : List D} {Q : D → Prop} : wBlt .toTup [.lst ds] Q ↔ Q (.tup ds) := by simp [wBlt, bltD, toTupD]
theorem wBlt_tupT {ds : List D} {Q : D → Prop} : wBlt .toTup [.tup ds] Q ↔ Q (.tup ds) := by simp [wBlt, bltD, toTupD]
theorem wBlt_lstL {ds : List D} {Q : D → Prop} : wBlt .toLst [.lst ds] Q ↔ Q (.lst ds) := by simp [wBlt, bltD, toLstD]
theorem wBlt_lstT {ds : List D} {Q : D → Prop} : wBlt .toLst [.tup ds] Q ↔ Q (.lst ds) := by simp [wBlt, bltD, toLstD]
theorem wTv_bl {b : Bool} {Q : Bool → Prop} : wTv (.bl b) Q ↔ Q b := by simp [wTv, tv]
theorem wTv_lst {ds : List D} {Q : Bool → Prop} : wTv (.lst ds) Q ↔ Q (!ds.isEmpty) := by cases ds <;> simp [wTv, tv]
theorem wIx_lst {ds : List D} {i : Int} {Q : D → Prop} : wIx (.lst ds) (.int i) Q ↔ ∃ d, L2.atI ds i = some d ∧ Q d := by simp [wIx, ixD]
theorem wIx_tup {ds : List D} {i : Int} {Q : D → Prop} : wIx (.tup ds) (.int i) Q ↔ ∃ d, L2.atI ds i = some d ∧ Q d := by simp [wIx, ixD]
theorem wIx_tup0 {d : D} {ds : List D} {Q : D → Prop} : wIx (.tup (d :: ds)) (.int 0) Q ↔ Q d := by
  simp [wIx, ixD, L2.atI, L2.ixN]
theorem wItems_lst {ds : List D} {Q : List D → Prop} : wItems (.lst ds) Q ↔ Q ds := by simp [wItems, items]
theorem wItems_tup {ds : List D} {Q : List D → Prop} : wItems (.tup ds) Q ↔ Q ds := by simp [wItems, items]
theorem wItems_str {x : Str} {Q : List D → Prop} : wItems (.str x) Q ↔ x.length ≤ sizeLine ∧ Q (x.cps.toList.map fun c => .str ⟨#[c]⟩) := by
  by_cases h : x.length ≤ sizeLine <;> simp [wItems, items, h]
noncomputable def wRun (G : List Fd) (gl : List D) (n i : Nat) (ds : List D) (Q : D → Prop) : Prop := ∃ d, PP.run G gl n i ds = some d ∧ Q d
noncomputable def retS (Q : D → Prop) : Out → Prop
  | .rt d _ => Q d
  | .nx _ => Q .non
  | .ro ds _ => Q (.lst ds)
  | _ => False
theorem wRun_mono {G : List Fd} {gl : List D} {n i : Nat} {ds : List D} {P Q : D → Prop} (h : wRun G gl n i ds P) (k : ∀ d, P d → Q d) : wRun G gl n i ds Q := by
  obtain ⟨d, e, p⟩ := h
  exact ⟨d, e, k d p⟩
theorem wRun_def {G : List Fd} {gl : List D} {n i : Nat} {ds : List D} {Q : D → Prop} (fd : Fd) (h : G[i]? = some fd) (hl : ds.length = fd.ps.length) (hf : fd.hf = false) (q : wSs ⟨PP.run G gl n, gl, hfs G⟩ fd.body (init (fd.ps ++ fd.loc).length ds) (retS Q)) : wRun G gl (n + 1) i ds Q := by
  obtain ⟨o, e, q⟩ := q
  unfold wRun
  have : PP.run G gl (n + 1) i ds = outD (evSs ⟨PP.run G gl n, gl, hfs G⟩ fd.body (init (fd.ps ++ fd.loc).length ds)) := by
    conv => lhs; unfold PP.run
    rw [h]
    dsimp only
    rw [if_pos hl, hf]
    rfl
  rw [this, e]
  cases o with
  | rt d δ => exact ⟨d, rfl, q⟩
  | ro d δ => exact ⟨.lst d, rfl, q⟩
  | nx δ => exact ⟨.non, rfl, q⟩
  | bk δ => exact q.elim
  | ct δ => exact q.elim
theorem wCall_run {G : List Fd} {gl : List D} {n f : Nat} {ds : List D} {Q : D → Prop} : wCall ⟨PP.run G gl n, gl, hfs G⟩ f ds Q ↔ wRun G gl n f ds Q := Iff.rfl
theorem retS_rt {Q : D → Prop} {d : D} {δ : Loc} : retS Q (.rt d δ) ↔ Q d := Iff.rfl
theorem retS_nx {Q : D → Prop} {δ : Loc} : retS Q (.nx δ) ↔ Q .non := Iff.rfl
end PP
end
section
namespace PP
open PySem
theorem wIx_str {x : Str} {i : Int} {Q : D → Prop} : wIx (.str x) (.int i) Q ↔ x.length ≤ sizeLine ∧ ∃ c, L2.atI x.cps.toList i = some c ∧ Q (.str ⟨#[c]⟩) := by
  unfold wIx ixD
  dsimp only
  constructor
  · rintro ⟨z, e, q⟩
    split at e
    · rw [Option.map_eq_some_iff] at e
      obtain ⟨c, e, rfl⟩ := e
      exact ⟨‹_›, c, e, q⟩
    · cases e
  · rintro ⟨h, c, e, q⟩
    exact ⟨_, by rw [if_pos h, e]; rfl, q⟩
theorem wRun_eq {G : List Fd} {gl : List D} {n i : Nat} {ds : List D} {d : D} {Q : D → Prop} (h : PP.run G gl n i ds = some d) : wRun G gl n i ds Q ↔ Q d := by
  unfold wRun
  rw [h]
  exact ⟨fun ⟨_, e, q⟩ => by cases e; exact q, fun q => ⟨d, rfl, q⟩⟩
theorem wRun_out {G : List Fd} {gl : List D} {n i : Nat} {ds : List D} {d : D} (h : wRun G gl n i ds fun x => x = d) : PP.run G gl n i ds = some d := by
  obtain ⟨x, e, rfl⟩ := h
  exact e
theorem at_ok {α : Type} {ds : List α} {j : Int} (h0 : 0 ≤ j) (h1 : j < ds.length) : ∃ d, d ∈ ds ∧ L2.atI ds j = some d := by
  have hk : j.toNat < ds.length := by omega
  refine ⟨ds[j.toNat], List.getElem_mem hk, ?_⟩
  have := L2.atI_nat (xs := ds) (j := j.toNat) (v := ds[j.toNat]) (List.getElem?_eq_getElem hk)
  rwa [show ((j.toNat : Nat) : Int) = j by omega] at this
theorem mul_r {a b : Int} (h0 : -(2 ^ 64) < b) (h1 : b < 2 ^ 64) : mulOk a b = true := by
  unfold mulOk
  simp only [decide_eq_true h0, decide_eq_true h1, Bool.and_self, Bool.or_true]
theorem str_app (a b : Str) : (a ++ b).length = a.length + b.length := by
  show (a.cps ++ b.cps).size = a.cps.size + b.cps.size
  exact Array.size_append
theorem small {n : Nat} (h : n ≤ 1000) : n ≤ sizeLine := Nat.le_of_lt (Nat.lt_of_le_of_lt h (by decide))
theorem str_len (x : Str) : x.cps.toList.length = x.length := by
  show x.cps.toList.length = x.cps.size
  simp
theorem rng_mem {lo : Int} {n : Nat} {x : D} (h : x ∈ rngD lo n) : ∃ i : Nat, i < n ∧ x = .int (lo + i) := by
  unfold rngD at h
  rw [List.mem_map] at h
  obtain ⟨i, hi, rfl⟩ := h
  exact ⟨i, by simpa using hi, rfl⟩
theorem rng_len {lo : Int} {n : Nat} : (rngD lo n).length = n := by simp [rngD]
theorem exBl {b : Bool} {P : Bool → Prop} : (∃ k, D.bl b = D.bl k ∧ P k) ↔ P b := ⟨fun ⟨_, e, q⟩ => by cases e; exact q, fun q => ⟨_, rfl, q⟩⟩
theorem exInt {b : Int} {P : Int → Prop} : (∃ k, D.int b = D.int k ∧ P k) ↔ P b := ⟨fun ⟨_, e, q⟩ => by cases e; exact q, fun q => ⟨_, rfl, q⟩⟩
theorem exLst {b : List D} {P : List D → Prop} : (∃ k, D.lst b = D.lst k ∧ P k) ↔ P b := ⟨fun ⟨_, e, q⟩ => by cases e; exact q, fun q => ⟨_, rfl, q⟩⟩
theorem exInt2 {a b : Int} {P : Int → Int → Prop} : (∃ i j, D.int a = D.int i ∧ D.int b = D.int j ∧ P i j) ↔ P a b := ⟨fun ⟨_, _, e, f, q⟩ => by cases e; cases f; exact q, fun q => ⟨_, _, rfl, rfl, q⟩⟩
theorem wIx_tup1 {a b : D} {ds : List D} {Q : D → Prop} : wIx (.tup (a :: b :: ds)) (.int 1) Q ↔ Q b := by
  have : L2.atI (a :: b :: ds) 1 = some b := L2.atI_nat (j := 1) rfl
  simp [wIx, ixD, this]
theorem wIx_tup2 {a b c : D} {ds : List D} {Q : D → Prop} : wIx (.tup (a :: b :: c :: ds)) (.int 2) Q ↔ Q c := by
  have : L2.atI (a :: b :: c :: ds) 2 = some c := L2.atI_nat (j := 2) rfl
  simp [wIx, ixD, this]
theorem wTg_tp2 {δ : Loc} {i j : Nat} {a b : D} {Q : Loc → Prop} : wTg δ (.tp [i, j]) (.tup [a, b]) Q ↔ wSet δ i (.val a) fun δ1 => wSet δ1 j (.val b) Q := by
  rw [wTg_tp]
  unfold wSet
  simp only [List.all_cons, List.all_nil, List.length_set, Bool.and_true, Bool.and_eq_true, decide_eq_true_eq]
  exact ⟨fun ⟨⟨_, h1, h2⟩, q⟩ => ⟨h1, h2, q⟩, fun ⟨h1, h2, q⟩ => ⟨⟨rfl, h1, h2⟩, q⟩⟩
theorem wTg_tp3 {δ : Loc} {i j k : Nat} {a b c : D} {Q : Loc → Prop} : wTg δ (.tp [i, j, k]) (.tup [a, b, c]) Q ↔ wSet δ i (.val a) fun δ1 => wSet δ1 j (.val b) fun δ2 => wSet δ2 k (.val c) Q := by
  rw [wTg_tp]
  unfold wSet
  simp only [List.all_cons, List.all_nil, List.length_set, Bool.and_true, Bool.and_eq_true, decide_eq_true_eq]
  exact ⟨fun ⟨⟨_, h1, h2, h3⟩, q⟩ => ⟨h1, h2, h3, q⟩, fun ⟨h1, h2, h3, q⟩ => ⟨⟨rfl, h1, h2, h3⟩, q⟩⟩
theorem wTg_tpl {δ : Loc} {is : List Nat} {ds : List D} {Q : Loc → Prop} : wTg δ (.tp is) (.lst ds) Q ↔ wTg δ (.tp is) (.tup ds) Q := Iff.rfl
theorem wTg_pr2 {δ : Loc} {i j k : Nat} {a b c : D} {Q : Loc → Prop} : wTg δ (.pr i [j, k]) (.tup [a, .tup [b, c]]) Q ↔ wSet δ i (.val a) fun δ1 => wSet δ1 j (.val b) fun δ2 => wSet δ2 k (.val c) Q := by
  unfold wTg wSet setTg
  simp only [List.all_cons, List.all_nil, List.length_set, Bool.and_true, Bool.and_eq_true, decide_eq_true_eq, List.length_cons, List.length_nil, true_and]
  constructor
  · rintro ⟨δ', e, q⟩
    split at e
    · rename_i h
      cases e
      exact ⟨h.1, h.2.1, h.2.2, q⟩
    · cases e
  · rintro ⟨h1, h2, h3, q⟩
    exact ⟨_, if_pos ⟨h1, h2, h3⟩, q⟩
end PP
end
section
namespace PP
open PySem
noncomputable def WS := And.intro (@wE_pk) (And.intro (@wE_int) (And.intro (@wE_bl) (And.intro (@wE_non) (And.intro (@wE_str) (And.intro (@wE_bin) (And.intro (@wE_cmp) (And.intro (@wT_cmp) (And.intro (@wE_and) (And.intro (@wE_or) (And.intro (@wE_not) (And.intro (@wE_neg) (And.intro (@wT_and) (And.intro (@wT_or) (And.intro (@wT_not) (And.intro (@wT_var) (And.intro (@wT_pk) (And.intro (@wT_call) (And.intro (@wT_blt) (And.intro (@wE_ite) (And.intro (@wE_tup) (And.intro (@wE_lst) (And.intro (@wE_ix) (And.intro (@wE_sl) (And.intro (@wE_call) (And.intro (@wE_blt) (And.intro (@wEs_nil) (And.intro (@wEs_cons) (And.intro (@wO_no) (And.intro (@wO_yes) (And.intro (@wG_no) (And.intro (@wG_yes) (And.intro (@wI_rng) (And.intro (@wI_sq) (And.intro (@wE_comp) (And.intro (@thenS_nx) (And.intro (@thenS_rt) (And.intro (@thenS_bk) (And.intro (@thenS_ct) (And.intro (@loopS_nx) (And.intro (@loopS_ct) (And.intro (@loopS_bk) (And.intro (@loopS_rt) (And.intro (@wSet_zip) (And.intro (@wZip_succ) (And.intro (@wZip_zero) (And.intro (@wPut_zip) (And.intro (@wPutZ_succ) (And.intro (@wPutZ_zero) (And.intro (@wRev_cons) (And.intro (@wRev_nil) (And.intro (@wVar_succ) (And.intro (@wVar_val) (And.intro (@wVar_own) (And.intro (@wGet_succ) (And.intro (@wGet_val) (And.intro (@wGet_own) (And.intro (@wOwn_succ) (And.intro (@wOwn_own) (And.intro (@wVal_succ) (And.intro (@wVal_val) (And.intro (@wE_var') (And.intro (@wSs_nil) (And.intro (@wSs_cons) (And.intro (@wS_asg) (And.intro (@wTg_nm) (And.intro (@wS_new) (And.intro (@wS_cmpT) (And.intro (@wS_cmpF) (And.intro (@wS_augA) (And.intro (@wS_ret) (And.intro (@wS_retN) (And.intro (@wS_pass) (And.intro (@wS_brk) (And.intro (@wS_cont) (And.intro (@wS_ifs) (And.intro (@wS_for) (And.intro (@wS_while) (And.intro (@wS_append) (And.intro (@wOp_addI) (And.intro (@wOp_subI) (And.intro (@wOp_mulI) (And.intro (@wOp_modI) (And.intro (@wOp_fdivI) (And.intro (@wOp_addS) (And.intro (@wOp_addT) (And.intro (@wOp_addL) (And.intro (@wCmp_lt) (And.intro (@wCmp_gt) (And.intro (@wCmp_eqI) (And.intro (@wCmp_eqS) (And.intro (@wCmp_neL) (And.intro (@wCmp_inT) (And.intro (@wBlt_lenL) (And.intro (@wBlt_lenT) (And.intro (@wBlt_lenS) (And.intro (@wBlt_max) (And.intro (@wBlt_maxL) (And.intro (@wBlt_intB) (And.intro (@wBlt_intI) (And.intro (@wBlt_str) (And.intro (@wBlt_tupL) (And.intro (@wBlt_tupT) (And.intro (@wBlt_lstL) (And.intro (@wBlt_lstT) (And.intro (@wTv_bl) (And.intro (@wTv_lst) (And.intro (@wIx_lst) (And.intro (@wIx_tup0) (And.intro (@wItems_lst) (And.intro (@wItems_tup) (And.intro (@wItems_str) (And.intro (@wCall_run) (And.intro (@retS_rt) (And.intro (@retS_nx) (And.intro (@wIx_str) (And.intro (@exBl) (And.intro (@exInt) (And.intro (@exLst) (And.intro (@exInt2) (And.intro (@wIx_tup1) (And.intro (@wIx_tup2) (And.intro (@wTg_tp2) (And.intro (@wTg_tp3) (And.intro (@wTg_tpl) (And.intro (@wTg_pr2) (True.intro))))))))))))))))))))))))))))))))))))))))))))))))))))))))))))))))))))))))))))))))))))))))))))))))))))))))))))))))))))))))))))))
end PP
end
section
namespace PP
open PySem
section
variable {cx : Cl} {δ : Loc}
theorem wComp_map {α : Type} {k : Nat} {tg : Tg} {ifs : Eo} {elt : E} {Q : List D → Loc → Prop} (g : α → D) (p : α → Bool) (h : α → D) : ∀ (xs : List α), (∀ x ∈ xs, wTg (δ ++ List.replicate k .no) tg (g x) fun δ2 => wG cx ifs δ2 fun b δ3 => b = p x ∧ if b = true then wE cx elt δ3 fun y δ4 => y = h x ∧ δ4.take δ.length = δ else δ3.take δ.length = δ) →
    Q ((xs.filter p).map h) δ → wComp cx k tg ifs elt (xs.map g) δ Q
  | [], _, q => wComp_nil.mpr q
  | x :: xs, hx, q => by
    rw [List.map_cons, wComp_cons]
    obtain ⟨δ2, e, b, δ3, e2, rfl, e3⟩ := hx x List.mem_cons_self
    refine ⟨δ2, e, _, δ3, e2, ?_⟩
    cases hp : p x with
    | true =>
      rw [hp, if_pos rfl] at e3
      obtain ⟨y, δ4, e4, rfl, t⟩ := e3
      rw [if_pos rfl]
      refine ⟨_, δ4, e4, ?_⟩
      show wComp cx k tg ifs elt _ (δ4.take δ.length) _
      rw [t]
      refine wComp_map g p h xs (fun z hz => hx z (List.mem_cons_of_mem _ hz)) ?_
      rw [List.filter_cons_of_pos hp] at q
      exact q
    | false =>
      rw [hp, if_neg Bool.false_ne_true] at e3
      rw [if_neg Bool.false_ne_true, e3]
      refine wComp_map g p h xs (fun z hz => hx z (List.mem_cons_of_mem _ hz)) ?_
      rw [List.filter_cons_of_neg (by simp [hp])] at q
      exact q
theorem wFor_map {α : Type} {tg : Tg} {body : Ss} {Q : Out → Prop} (g : α → D) (P : List α → Loc → Prop) (step : ∀ x xs δ, P (x :: xs) δ → wTg δ tg (g x) fun δ2 => wSs cx body δ2 (loopS (P xs) Q)) (fin : ∀ δ, P [] δ → Q (.nx δ)) (xs : List α) (δ : Loc) (h : P xs δ) : wFor cx tg body (xs.map g) δ Q := by
  induction xs generalizing δ with
  | nil => exact wFor_nil.mpr (fin δ h)
  | cons x xs ih =>
    rw [List.map_cons, wFor_cons]
    obtain ⟨δ2, e, o, e2, q⟩ := step x xs δ h
    refine ⟨δ2, e, o, e2, ?_⟩
    cases o with
    | nx δ3 => exact ih δ3 q
    | ct δ3 => exact ih δ3 q
    | bk δ3 => exact q
    | rt d δ3 => exact q
    | ro d δ3 => exact q
end
theorem ints_map {α : Type} (f : α → Int) (xs : List α) : intsD (xs.map fun x => .int (f x)) = some (xs.map f) := by
  induction xs with
  | nil => rfl
  | cons x xs ih => simp [intsD, ih]
end PP
end
section
namespace PP
open PySem
noncomputable def wFnc (δ : Loc) (i : Nat) (Q : Nat → List D → Prop) : Prop := match δ[i]? with
  | some (.fnc k cs) => Q k cs
  | _ => False
noncomputable def wCaps (δ : Loc) (caps : List Nat) (Q : List D → Prop) : Prop := ∃ cs, capsD δ caps = some cs ∧ Q cs
section
variable {cx : Cl} {δ : Loc}
theorem wFnc_succ {i : Nat} {t : Sl} {Q : Nat → List D → Prop} : wFnc (t :: δ) (i + 1) Q ↔ wFnc δ i Q := by simp [wFnc]
theorem wFnc_fnc {k : Nat} {cs : List D} {Q : Nat → List D → Prop} : wFnc (.fnc k cs :: δ) 0 Q ↔ Q k cs := by simp [wFnc]
theorem wCaps_nil {Q : List D → Prop} : wCaps δ [] Q ↔ Q [] := by simp [wCaps, capsD]
theorem wCaps_cons {i : Nat} {r : List Nat} {Q : List D → Prop} : wCaps δ (i :: r) Q ↔ wGet δ i fun d => flat d = true ∧ wCaps δ r fun cs => Q (d :: cs) := by
  unfold wCaps wGet
  constructor
  · rintro ⟨cs, e, q⟩
    unfold capsD at e
    cases h : PP.get δ i with
    | none => rw [h] at e; cases e
    | some d =>
      rw [h] at e
      dsimp only at e
      split at e
      · rw [Option.map_eq_some_iff] at e
        obtain ⟨x, e, rfl⟩ := e
        exact ⟨d, rfl, ‹_›, x, e, q⟩
      · cases e
  · rintro ⟨d, h, f, cs, e, q⟩
    refine ⟨d :: cs, ?_, q⟩
    unfold capsD
    rw [h]
    dsimp only
    rw [if_pos f, e]
    rfl
theorem lfO_some {o : Option D} {d : D} : lfO o = some d ↔ o = some d ∧ lf d = true := by
  cases o with
  | none => simp [lfO]
  | some r =>
    unfold lfO
    dsimp only
    split
    · rename_i h
      constructor
      · intro e; cases e; exact ⟨rfl, h⟩
      · intro e; exact e.1
    · rename_i h
      constructor
      · intro e; cases e
      · rintro ⟨e, z⟩; cases e; exact absurd z h
theorem wE_callv {i : Nat} {es : Es} {Q : D → Loc → Prop} : wE cx (.callv i es) δ Q ↔ wFnc δ i fun k cs => wEs cx es δ fun ds δ1 => lfL ds = true ∧ wCall cx k (ds ++ cs) fun z => lf z = true ∧ Q z δ1 := by
  unfold wE wEs wCall wFnc
  simp only [evE, Option.bind_eq_bind, Option.bind_eq_some_iff, Prod.exists]
  constructor
  · rintro ⟨d, δ', ⟨ds, δ1, h1, e⟩, q⟩
    split at e
    · rename_i h
      (try rw [h])
      split at e
      · rw [Option.map_eq_some_iff] at e
        obtain ⟨r, e, e2⟩ := e
        cases e2
        rw [lfO_some] at e
        exact ⟨ds, _, h1, ‹_›, d, e.1, e.2, q⟩
      · cases e
    · cases e
  · intro h
    split at h
    · rename_i k cs hk
      obtain ⟨ds, δ1, h1, h2, z, h3, h4, q⟩ := h
      refine ⟨z, δ1, ⟨ds, δ1, h1, ?_⟩, q⟩
      (try rw [hk])
      (try dsimp only)
      rw [if_pos h2, lfO_some.mpr ⟨h3, h4⟩]
      rfl
    · exact h.elim
theorem wE_callF {f i : Nat} {es : Es} {Q : D → Loc → Prop} : wE cx (.callF f es i) δ Q ↔ wEs cx es δ fun ds δ1 => wFnc δ1 i fun k cs => cx.hf f = true ∧ wCall cx f (ds ++ [.fn k cs]) fun z => Q z δ1 := by
  unfold wE wEs wCall wFnc
  simp only [evE, Option.bind_eq_bind, Option.bind_eq_some_iff, Prod.exists]
  constructor
  · rintro ⟨d, δ', ⟨ds, δ1, h1, e⟩, q⟩
    refine ⟨ds, δ1, h1, ?_⟩
    split at e
    · rename_i h
      (try rw [h])
      split at e
      · rw [Option.map_eq_some_iff] at e
        obtain ⟨r, e, e2⟩ := e
        cases e2
        exact ⟨‹_›, d, e, q⟩
      · cases e
    · cases e
  · rintro ⟨ds, δ1, h1, h⟩
    split at h
    · rename_i k cs hk
      obtain ⟨h2, z, h3, q⟩ := h
      refine ⟨z, δ1, ⟨ds, δ1, h1, ?_⟩, q⟩
      (try rw [hk])
      (try dsimp only)
      rw [if_pos h2, h3]
      rfl
    · exact h.elim
theorem wS_retL {f k : Nat} {es : Es} {caps : List Nat} {Q : Out → Prop} : wS cx (.retL f es k caps) δ Q ↔ wEs cx es δ fun ds δ1 => wCaps δ1 caps fun cs => cx.hf f = true ∧ wCall cx f (ds ++ [.fn k cs]) fun z => lf z = true ∧ Q (.rt z δ1) := by
  unfold wS wEs wCall wCaps
  simp only [evS, Option.bind_eq_bind, Option.bind_eq_some_iff, Prod.exists]
  constructor
  · rintro ⟨o, ⟨ds, δ1, h1, cs, h2, e⟩, q⟩
    refine ⟨ds, δ1, h1, cs, h2, ?_⟩
    split at e
    · rw [Option.map_eq_some_iff] at e
      obtain ⟨r, e, e2⟩ := e
      cases e2
      rw [lfO_some] at e
      exact ⟨‹_›, r, e.1, e.2, q⟩
    · cases e
  · rintro ⟨ds, δ1, h1, cs, h2, h3, z, h4, h5, q⟩
    refine ⟨_, ⟨ds, δ1, h1, cs, h2, ?_⟩, q⟩
    rw [if_pos h3, lfO_some.mpr ⟨h4, h5⟩]
    rfl
end
theorem wRun_defF {G : List Fd} {gl : List D} {n i : Nat} {ds : List D} {Q : D → Prop} {δ : Loc} (fd : Fd) (h : G[i]? = some fd) (hl : ds.length = fd.ps.length) (hf : fd.hf = true) (he : entry true (fd.ps ++ fd.loc).length ds = some δ) (q : wSs ⟨PP.run G gl n, gl, hfs G⟩ fd.body δ (retS Q)) : wRun G gl (n + 1) i ds Q := by
  obtain ⟨o, e, q⟩ := q
  unfold wRun
  have : PP.run G gl (n + 1) i ds = outD (evSs ⟨PP.run G gl n, gl, hfs G⟩ fd.body δ) := by
    conv => lhs; unfold PP.run
    rw [h]
    dsimp only
    rw [if_pos hl, hf, he]
  rw [this, e]
  cases o with
  | rt d δ => exact ⟨d, rfl, q⟩
  | ro d δ => exact ⟨.lst d, rfl, q⟩
  | nx δ => exact ⟨.non, rfl, q⟩
  | bk δ => exact q.elim
  | ct δ => exact q.elim
end PP
end
section
namespace PP
open PySem
section
variable {cx : Cl} {δ : Loc}
theorem wS_forZ {tg : Tg} {es : Es} {body : Ss} {Q : Out → Prop} : wS cx (.forZ tg es body) δ Q ↔ wEs cx es δ fun ds δ1 => ∃ x y xs ys, ds = [x, y] ∧ seqD x = some xs ∧ seqD y = some ys ∧ wFor cx tg body (zipD xs ys) δ1 Q := by
  unfold wS wEs wFor forF
  simp only [evS, Option.bind_eq_bind, Option.bind_eq_some_iff, Prod.exists]
  constructor
  · rintro ⟨o, ⟨ds, δ1, h1, e⟩, q⟩
    split at e
    · split at e
      · exact ⟨_, _, h1, _, _, _, _, rfl, ‹_›, ‹_›, o, e, q⟩
      · cases e
    · cases e
  · rintro ⟨ds, δ1, h1, x, y, xs, ys, rfl, e1, e2, o, e, q⟩
    exact ⟨o, ⟨_, _, h1, by dsimp only; rw [e1, e2]; exact e⟩, q⟩
theorem wE_fstr {t : Str} {a : E} {Q : D → Loc → Prop} : wE cx (.fstr t a) δ Q ↔ wE cx a δ fun x δ1 => ∃ i, x = .int i ∧ i.natAbs.log2 < 1920 ∧ t.length + (toString i : Str).length ≤ sizeLine ∧ Q (.str (t ++ toString i)) δ1 := by
  unfold wE
  simp only [evE, Option.bind_eq_bind, Option.bind_eq_some_iff, Prod.exists]
  constructor
  · rintro ⟨d, δ', ⟨x, δ1, h1, e⟩, q⟩
    refine ⟨x, δ1, h1, ?_⟩
    split at e
    · rename_i h
      cases h
      split at e
      · rename_i hh
        cases e
        exact ⟨_, rfl, hh.1, hh.2, q⟩
      · cases e
    · cases e
  · rintro ⟨x, δ1, h1, i, rfl, l1, l2, q⟩
    exact ⟨_, _, ⟨_, _, h1, by dsimp only; rw [if_pos ⟨l1, l2⟩]⟩, q⟩
end
end PP
end
section
namespace PP
open PySem L2 PyProof.Rows
noncomputable def fzO (b : Addr) (o : Obj) : HO := .frz o (.ext fun h => h.get? b = some o)
noncomputable def addF (H : Hp) (cs : List (Addr × Obj)) : Hp := fun b => match cs.lookup b with
  | some o => some (fzO b o)
  | none => H b
noncomputable def delF (H : Hp) (cs : List (Addr × Obj)) : Hp := fun b => match cs.lookup b with
  | some _ => none
  | none => H b
section
variable {P : Program} {w : World} {H H' : Hp} {h h' : Heap} {cs : List (Addr × Obj)}
theorem addF_in {b : Addr} {o : Obj} (e : cs.lookup b = some o) : addF H cs b = some (fzO b o) := by unfold addF; rw [e]
theorem addF_out {b : Addr} (e : cs.lookup b = none) : addF H cs b = H b := by unfold addF; rw [e]
theorem delF_in {b : Addr} {o : Obj} (e : cs.lookup b = some o) : delF H cs b = none := by unfold delF; rw [e]
theorem delF_out {b : Addr} (e : cs.lookup b = none) : delF H cs b = H b := by unfold delF; rw [e]
noncomputable def Un0 (H : Hp) (h : Heap) (cs : List (Addr × Obj)) : Prop := ∀ b o, cs.lookup b = some o → H b = none ∧ h.get? b = some o
theorem addF_of {b : Addr} {u : HO} (c : Un0 H h cs) (e : H b = some u) : addF H cs b = some u := by
  cases q : cs.lookup b with
  | none => rw [addF_out q]; exact e
  | some o => rw [(c b o q).1] at e; cases e
theorem ObjOk.mono {a : Addr} : ∀ {u : HO}, ObjOk P w H h a u → (∀ b x, (∀ o, x ≠ fzO b o) → H b = some x → H' b = some x) → ObjOk P w H' h a u
  | .lst _, x, _ => x
  | .tup _, x, _ => x
  | .dK _, x, _ => x
  | .dT kvs, x, k => by
    obtain ⟨x1, x2, xs, x3, x4⟩ := x
    refine ⟨x1, x2, xs, L2.Paired.mapP x3 fun p q z => ⟨z.1, k _ _ (fun o => by unfold fzO; intro z; cases z) z.2.1, z.2.2⟩, x4⟩
  | .set _ _, x, _ => x
  | .ins _ _ _, x, k => by
    obtain ⟨x1, x2⟩ := x
    exact ⟨k _ _ (fun o => by unfold fzO; intro z; cases z) x1, x2⟩
  | .own _, x, _ => x
  | .xd _, x, _ => x
  | .met _ _, x, _ => x
  | .rng _ _, x, _ => x
  | .frz _ u, x, k => ⟨x.1, ObjOk.mono x.2 k⟩
  | .tbl _, x, _ => x
  | .ext _, x, _ => x
theorem HOk.add (x : HOk P w H h) (c : Un0 H h cs) : HOk P w (addF H cs) h := fun a u e => by
  cases q : cs.lookup a with
  | none =>
    rw [addF_out q] at e
    exact ObjOk.mono (x a u e) fun b y _ z => addF_of c z
  | some o =>
    rw [addF_in q] at e
    cases e
    have g := (c a o q).2
    exact ⟨g, g, ⟨o, g⟩, fun h1 h2 e1 k => k _ e1⟩
noncomputable def Fz0 (H : Hp) (cs : List (Addr × Obj)) : Prop := ∀ b o, cs.lookup b = some o → H b = some (fzO b o)
theorem HOk.del (x : HOk P w H h) (c : Fz0 H cs) : HOk P w (delF H cs) h := fun a u e => by
  cases q : cs.lookup a with
  | some o => rw [delF_in q] at e; cases e
  | none =>
    rw [delF_out q] at e
    refine ObjOk.mono (x a u e) fun b y n z => ?_
    cases r : cs.lookup b with
    | none => rw [delF_out r]; exact z
    | some o =>
      rw [c b o r] at z
      cases z
      exact absurd rfl (n o)
theorem Un.del {fs ex : List Addr} (u : Un fs ex (addF H cs) H' h h') (x : HOk P w H' h') (c : Un0 H h cs) (nf : ∀ b o, cs.lookup b = some o → b ∉ fs ∧ b ∉ ex) : Un fs ex H (delF H' cs) h h' ∧ Fz0 H' cs := by
  have fz : Fz0 H' cs := fun b o e => u.frzs b o _ (addF_in e)
  refine ⟨⟨fun b o e n hb hx => ?_, fun b o e n hb hx => ?_, fun b o e n hx => ?_, u.there, fun b xs e => ?_, fun b o y e => ?_, fun b ps e => ?_⟩, fz⟩
  · cases q : cs.lookup b with
    | none => exact u.keep b o e (by rw [addF_out q]; exact n) hb hx
    | some o' =>
      have g := (c b o' q).2
      rw [e] at g
      cases g
      exact (x b _ (fz b o q)).1
  · cases q : cs.lookup b with
    | none => exact u.slot b o e (by rw [addF_out q]; exact n) hb hx
    | some o' => exact absurd hb (nf b o' q).1
  · cases q : cs.lookup b with
    | none => rw [delF_out q]; exact u.free b o e (by rw [addF_out q]; exact n) hx
    | some o' => exact delF_in q
  · cases q : cs.lookup b with
    | none => rw [delF_out q]; exact u.tups b xs (by rw [addF_out q]; exact e)
    | some o' => rw [(c b o' q).1] at e; cases e
  · cases q : cs.lookup b with
    | none => rw [delF_out q]; exact u.frzs b o y (by rw [addF_out q]; exact e)
    | some o' => rw [(c b o' q).1] at e; cases e
  · cases q : cs.lookup b with
    | none => rw [delF_out q]; exact u.tbls b ps (by rw [addF_out q]; exact e)
    | some o' => rw [(c b o' q).1] at e; cases e
theorem Env0.add {K : PySem.W.Frag} {mg : Str → Option Value} {base : Heap} {A : Around} {outer : List Env} {s : Shared} (e : Env0 P w K mg base A outer s H) (c : Un0 H s.heap cs) (nb : ∀ b o, cs.lookup b = some o → base.get? b = none ∧ b ∉ frs outer) : Env0 P w K mg base A outer s (addF H cs) :=
  ⟨e.frames, e.mod, fun b o z => ⟨(e.bs b o z).1, by
    cases q : cs.lookup b with
    | none => rw [addF_out q]; exact (e.bs b o z).2
    | some o' => rw [(nb b o' q).1] at z; cases z⟩, e.bsz, e.funs, fun b hb => by
    cases q : cs.lookup b with
    | none => rw [addF_out q]; exact e.frf b hb
    | some o' => exact absurd hb (nb b o' q).2, HOk.add e.hok c, e.bare⟩
end
theorem Inv.callF {X : Cx} {pins : List (Addr × Obj)} {σ : L2.St} {H : Hp} {s s' : Shared} {cs : List (Addr × Obj)} {Q : VK} {u : Value} (I : Inv X pins σ H s) (c : Un0 H s.heap cs) (nf : ∀ b o, cs.lookup b = some o → b ∉ frs X.stack)
    (h : CE X.stack X.prog X.w (addF H cs) s Q u s') : ∃ v H', Inv X pins σ (delF H' cs) s' ∧ RelV v u ∧ Fz0 H' cs ∧ Q v H' := by
  obtain ⟨v, H', os, bare, un, hok, r, qq⟩ := h
  obtain ⟨hh, g, d, t, os'⟩ := s'
  obtain rfl : os' = s.os := os
  obtain ⟨un', fz⟩ := Un.del un hok c fun b o e => ⟨nf b o e, by simp⟩
  exact ⟨v, H', I.call (h' := hh) (g' := g) (d' := d) (t' := t) (ch := []) un' (HOk.del hok fz) bare (fun b z => absurd z (by simp)), r, fz, qq⟩
end PP
end
section
namespace PP
open PySem L2 PyProof.Rows
variable [Tbs]
section
variable {cx : Cl} {k : Nat}
theorem noPk_ok : ∀ {es : Es}, noPk es = true → okEs es = true
  | .nil, _ => rfl
  | .cons e es, h => by
    have h' : (!isPk e && noPk es) = true := h
    rw [Bool.and_eq_true] at h'
    show ((!isPk e || npS es) && okEs es) = true
    rw [h'.1, noPk_ok h'.2]; rfl
theorem star_any {c : Ck} {env : Env} {pos : Pos} : ∀ {es : Es} {ys : List Expr}, ckEs c es ys = true → (backTo pos (starEach ys env)).any (·.1) = false
  | .nil, ys, h => by obtain ⟨rfl, _⟩ := on0_of h; rfl
  | .cons e es, ys, h => by
    obtain ⟨_, _, rfl, hh⟩ := onS_of h
    rw [Bool.and_eq_true] at hh
    rw [head_star (ck_head hh.1)]
    show (false || (backTo pos (starEach _ env)).any (·.1)) = false
    rw [star_any hh.2]; rfl
theorem scope_of {X : Cx} {c : Ck} {sc : Scope} (C : Cok X c cx k) (h : scopeOk c sc = true) : CScope X sc := by
  unfold scopeOk at h
  rw [Bool.and_eq_true, List.all_eq_true] at h
  obtain ⟨h1, h2⟩ := h
  have q : ∀ p ∈ sc.names, p.2 ≠ .cell ∧ (p.2 = .local → sc.names.lookup p.1 = some .local) ∧ (p.2 = .free → c.sc.names.lookup p.1 = some .cell ∨ c.sc.names.lookup p.1 = some .free) := fun p hp => by
    have z := h2 p hp
    rw [Bool.and_eq_true, Bool.and_eq_true] at z
    obtain ⟨⟨a, b⟩, d⟩ := z
    refine ⟨of_decide_eq_true a, fun e => ?_, fun e => ?_⟩
    · rw [Bool.or_eq_true] at b
      rcases b with b | b
      · simp [e] at b
      · exact of_decide_eq_true b
    · rw [Bool.or_eq_true] at d
      rcases d with d | d
      · simp [e] at d
      · split at d
        · exact .inl ‹_›
        · exact .inr ‹_›
        · cases d
  exact ⟨of_decide_eq_true h1, fun y hy => (q y hy).1, fun y hy e => (q y hy).2.1 e, fun x hx => C.kc x ((q _ hx).2.2 rfl)⟩
theorem cok_block {X : Cx} {c : Ck} {sc : Scope} {Nc : List Str} (C : Cok X c cx k) (h : scopeOk c sc = true) (hn : Nc.Nodup) (cl : List (Str × Addr)) (Ca : Addr) (s : Shared) (H : Hp) (fp : List Addr) : Cok (cxC X sc cl Ca Nc s H fp) ⟨Nc, sc, c.fns, c.gn⟩ cx k := by
  have S := scope_of C h
  have kd : ∀ x, (cxC X sc cl Ca Nc s H fp).env.kindOf x = (sc.names.lookup x).map fun k => if (k == NameKind.free && X.env.scope.kind == .function && X.env.kindOf x == some .cell) then NameKind.cell else k := fun x => comp_kind x
  refine ⟨rfl, hn, fun x hx => ?_, fun x hx => ?_, fun x hx => ?_, fun x hx => ?_, C.calm, rfl, C.room, C.fns, C.fnF, C.fnO, C.lam, C.blt, C.glob, C.gsome⟩
  · have e := kd x
    show (cxC X sc cl Ca Nc s H fp).env.kindOf x = some .local ∨ (cxC X sc cl Ca Nc s H fp).env.kindOf x = some .cell ∨ (cxC X sc cl Ca Nc s H fp).env.kindOf x = some .free
    rw [e]
    rcases hx with hx | hx | hx
    · rw [hx]; exact .inl rfl
    · exact absurd rfl (S.nocell _ (PySem.mem_of_lookup hx))
    · rw [hx]
      simp only [Option.map_some]
      split
      · exact .inr (.inl rfl)
      · exact .inr (.inr rfl)
  · show (cxC X sc cl Ca Nc s H fp).env.kindOf x = some .globalImplicit
    rw [kd x]
    have hx : sc.names.lookup x = some .globalImplicit := hx
    rw [hx]
    rfl
  · have : sc.names.lookup x = some .local := by
      rcases hx with hx | hx
      · exact hx
      · exact absurd rfl (S.nocell _ (PySem.mem_of_lookup hx))
    have e : (cxC X sc cl Ca Nc s H fp).env.kindOf x = some .local := by rw [kd x, this]; rfl
    exact ⟨.inl e, .inr e⟩
  · rw [kd x]
    have hx : sc.names.lookup x = some .cell ∨ sc.names.lookup x = some .free := hx
    rcases hx with hx | hx
    · exact absurd rfl (S.nocell _ (PySem.mem_of_lookup hx))
    · rw [hx]
      simp only [Option.map_some]
      split
      · exact .inl rfl
      · exact .inr rfl
theorem names_of' {c : Ck} {sc : Scope} {Nc : List Str} (h : namesOk c sc Nc = true) : Nc.Nodup ∧ ∀ i x, i < c.N.length → Nc[i]? = some x → Vis sc x → c.N[i]? = some x ∧ sc.names.lookup x = some .free := by
  unfold namesOk at h
  rw [Bool.and_eq_true, List.all_eq_true] at h
  refine ⟨of_decide_eq_true h.1, fun i x hi e v => ?_⟩
  have z := h.2 i (by simpa using hi)
  rw [e] at z
  dsimp only at z
  rw [Bool.or_eq_true, Bool.and_eq_true] at z
  have vb : visB sc x = true := by
    unfold visB
    rcases v with v | v | v <;> rw [v]
  rcases z with z | ⟨z1, z2⟩
  · rw [vb] at z; cases z
  · exact ⟨of_decide_eq_true z1, of_decide_eq_true z2⟩
theorem comp_any {X : Cx} {c : Ck} {Nc : List Str} {kk : Nat} {tg : Tg} {src : It} {ifs : Eo} {elt : E} {pins : List (Addr × Obj)} {s : Shared} {σ : L2.St} {H : Hp} {Q : VK} (C : Cok X c cx k) (I : Inv X pins σ H s) (n : (!isPk elt) = true) (hk : Nc.length = c.N.length + kk) (hge : tgGe c.N.length tg = true)
    {G : Gh} {F : Addr → Prop} {δ δ' : Loc} {d : D} (ok : Ok X.K G F σ H δ) (ev : evE cx (.comp kk tg src ifs elt) δ = some (d, δ'))
    (q : ∀ p ys xs H1 F1 H2 F2, d = .lst ys → Step G F H F1 H1 → Step G F1 H1 F2 H2 → H1 p = none → G.free p → Ok X.K (G.and p) F2 σ H2 δ' → H2 p = some (.lst xs) → RelL X.K H2 F2 ys xs → (np (.comp kk tg src ifs elt) = true → Sim H H2) → Q (.ref p) H2) :
    tLC (Nc.length - X.N.length) (tI X.K cx src) (gTg X.K tg) (tG X.K cx ifs) (tE X.K cx elt) σ H Q := by
  obtain ⟨ds, δ1, ys, ei, ec, hz, rfl⟩ := comp_ev ev
  have ek : Nc.length - X.N.length = kk := by rw [C.hN, hk]; omega
  rw [ek]
  refine ⟨G, F, δ, ds, δ1, ok, ei, fun J H1 F1 st1 sm1 ok1 wk => fun p hp => ?_⟩
  have hg := ok1.free hp
  refine comp_turns n (by rw [I.len, C.hN]; exact hge) ok1 (wk _) hp ec hz fun σ' H2 F2 xs ok2 eD rl st2 sm2 => ?_
  refine q p ys xs H1 F1 H2 F2 rfl st1 st2 hp hg ok2 eD rl fun z => ?_
  have z' : (npI src && npO ifs && np elt) = true := z
  rw [Bool.and_eq_true, Bool.and_eq_true] at z'
  exact (sm1 z'.1.1).trans (sm2 (by rw [z'.1.2, z'.2]; rfl))
theorem comp_tLC {X : Cx} {c : Ck} {Nc : List Str} {kk : Nat} {tg : Tg} {src : It} {ifs : Eo} {elt : E} {pins : List (Addr × Obj)} {s : Shared} {σ : L2.St} {H : Hp} {Q : VK} (C : Cok X c cx k) (I : Inv X pins σ H s) (n : (!isPk elt) = true) (hk : Nc.length = c.N.length + kk) (hge : tgGe c.N.length tg = true)
    (h : tE X.K cx (.comp kk tg src ifs elt) σ H Q) : tLC (Nc.length - X.N.length) (tI X.K cx src) (gTg X.K tg) (tG X.K cx ifs) (tE X.K cx elt) σ H Q := by
  obtain ⟨G, F, δ, d, δ', ok, ev, post⟩ := h
  refine comp_any C I n hk hge ok ev fun p ys xs H1 F1 H2 F2 e st1 st2 hp hg ok2 eD rl sm => ?_
  subst e
  have st' : Step G F1 H1 (fun b => F2 b ∧ b ≠ p) H2 := ⟨st2.keep, fun b z => st2.grow b z.1, fun b o r f e => by
    obtain ⟨a1, a2⟩ := st2.res b o r f e
    exact ⟨⟨a1, fun w => by rw [w, hp] at e; cases e⟩, a2⟩, st2.tb⟩
  refine post (.ref p) H2 _ (st1.trans st') sm (ok2.leave hg) (relm ?_)
  unfold Rel
  exact ⟨p, xs, rfl, .inl ⟨.inl eD, fun z => z.2 rfl⟩, RelL.less ok2.fd (fun b z => z.1) rl⟩
theorem snd_comp {X : Cx} {c : Ck} {sc : Scope} {Nc : List Str} {kk : Nat} {tg : Tg} {src : It} {ifs : Eo} {elt : E} {ex t it : Expr} {il : List Expr} {pos : Pos} (C : Cok X c cx k) (n : (!isPk elt) = true) (hk : Nc.length = c.N.length + kk) (hge : tgGe c.N.length tg = true) (hs : scopeOk c sc = true) (hn : namesOk c sc Nc = true)
    (htg : ∀ cl Ca s H fp, PG (cxC X sc cl Ca Nc s H fp) t (gTg X.K tg)) (hI : PI X t it (tI X.K cx src)) (hG : ∀ cl Ca s H fp, PTs (cxC X sc cl Ca Nc s H fp) il (tG X.K cx ifs)) (hE : ∀ cl Ca s H fp, PE (cxC X sc cl Ca Nc s H fp) ex (tE X.K cx elt))
    (hset : ∀ v, foldedSetIterable it X.env v = pure v) : PE X (.ListComp ex [⟨t, it, il, 0⟩] sc pos) (tE X.K cx (.comp kk tg src ifs elt)) := by
  obtain ⟨nd, hvis⟩ := names_of' hn
  intro pins s σ H Q I h
  refine pe_lcomp (Nc := Nc) C.xe C.calm (scope_of C hs) (fun i x hi => by rw [C.hN] at hi ⊢; exact hvis i x hi) (by rw [C.hN, hk]; omega) hI htg hG hE hset pins s σ H Q I ?_
  exact comp_tLC C I n hk hge h
theorem call_of {X : Cx} {c : Ck} {f : Nat} {es : Es} {n : Str} {p pos : Pos} {xs : List Expr} (C : Cok X c cx k) (hA : PA X xs (tEs X.K cx es)) (h : (match c.fns[f]? with
      | some (m, ps) => decide (m = n) && globIs c n && decide (ps.length = esLen es) && ckEs c es xs && noPk es && !xs.isEmpty
      | none => false) = true) : PE X (.Call (.Name n p) xs [] pos) (tE X.K cx (.call f es)) := by
  split at h
  · rename_i m ps ef
    simp only [Bool.and_eq_true] at h
    obtain ⟨⟨⟨⟨⟨h1, h2⟩, h3⟩, h4⟩, h5⟩, h6⟩ := h
    have e := of_decide_eq_true h1
    subst e
    obtain ⟨a, fd, hm, hk, hb, fn⟩ := C.fns f _ _ ef
    obtain ⟨g1, g2, g3⟩ := C.global h2
    cases xs with
    | nil => simp at h6
    | cons y ys =>
      obtain ⟨_, _, _, a1, a2⟩ := ckEs_cons h4
      exact snd_call h5 fn C.room g1 hm hk hb hA g2 (head_star (ck_head a1) _ _) (star_any a2)
  · cases h
theorem blt_of {X : Cx} {c : Ck} {f : Blt} {es : Es} {p pos : Pos} {y : Expr} {ys : List Expr} (C : Cok X c cx k) (hg : globIs c (bltNm f) = true) (ht : tyName f = none) (hA : PA X (y :: ys) (tEs X.K cx es)) (h : ckEs c es (y :: ys) = true) : PE X (.Call (.Name (bltNm f) p) (y :: ys) [] pos) (tE X.K cx (.blt f es)) := by
  obtain ⟨g1, g2, g3⟩ := C.global hg
  obtain ⟨e, es', rfl, h1, h2⟩ := ckEs_cons h
  have he := head_star (ck_head h1) ys X.env
  have hpl := star_any (env := X.env) (pos := pos) h2
  cases f with
  | len => exact snd_blt lenD rfl (pe_callB cb_len g1 (C.blt _ (by decide +kernel)) rfl hA g3 g2 he hpl)
  | max => exact snd_blt maxD rfl (pe_callB (cb_max C.calm) g1 (C.blt _ (by decide +kernel)) rfl hA g3 g2 he hpl)
  | toInt => exact snd_blt toIntD rfl (pe_callTy cb_int g1 (C.blt _ (by decide +kernel)) rfl hA g3 g2 he hpl)
  | toStr => exact snd_blt toStrD rfl (pe_callTy cb_str g1 (C.blt _ (by decide +kernel)) rfl hA g3 g2 he hpl)
  | toTup => exact snd_blt toTupD rfl (pe_callTy cb_tup g1 (C.blt _ (by decide +kernel)) rfl hA g3 g2 he hpl)
  | toLst => exact snd_blt toLstD rfl (pe_callTy cb_lst g1 (C.blt _ (by decide +kernel)) rfl hA g3 g2 he hpl)
  | _ => cases ht
end
end PP
end
section
namespace PP
open PySem L2 PyProof.Rows
variable [Tbs]
section
variable {X : Cx} {cx : Cl} {k : Nat}
theorem FnV.at {pins : List (Addr × Obj)} {σ : L2.St} {H : Hp} {s : Shared} {n : Nat} {cs : List D} {a : Addr} (I : Inv X pins σ H s) (h : FnV H n cs a) : PySem.W.FnAt a s.heap := by
  obtain ⟨L, pm, ctv, c', oc, vs, tk, cells, h1, h2, _⟩ := h
  exact ⟨_, _, _, _, (I.hok a _ h2).1⟩
theorem snd_callv {c : Ck} (C : Cok X c cx k) {i : Nat} {es : Es} {x : Str} {y : Expr} {ys : List Expr} {p pos : Pos} (hx : nameIs c i x = true) (n : noPk es = true) (hA : PA X (y :: ys) (tEs X.K cx es)) (he : starEach (y :: ys) X.env = (false, eval y X.env) :: starEach ys X.env) (hpl : (backTo pos (starEach ys X.env)).any (·.1) = false) :
    PE X (.Call (.Name x p) (y :: ys) [] pos) (tE X.K cx (.callv i es)) := by
  obtain ⟨n1, n2, n3, n4⟩ := C.name hx
  intro pins s σ H Q I h
  obtain ⟨G, F, δ, d, δ', ok, ev, post⟩ := h
  simp only [evE, Option.bind_eq_bind, Option.bind_eq_some_iff] at ev
  obtain ⟨⟨ds, δ1⟩, ea, ev⟩ := ev
  cases q : δ[i]? with
  | none => rw [q] at ev; cases ev
  | some sl =>
    rw [q] at ev
    cases sl with
    | no => cases ev
    | val _ => cases ev
    | own _ => cases ev
    | fnc m cs =>
      dsimp only at ev
      split at ev
      · rename_i hl
        rw [Option.map_eq_some_iff] at ev
        obtain ⟨r, er, e⟩ := ev
        cases e
        have er' : cx.call m (ds ++ cs) = some d ∧ lf d = true := by
          cases z : cx.call m (ds ++ cs) with
          | none => rw [z] at er; cases er
          | some r =>
            rw [z] at er
            unfold lfO at er
            split at er
            · split at er
              · rename_i e2 h2; cases er; cases e2; exact ⟨rfl, h2⟩
              · cases er
            · cases er
        obtain ⟨a, es', fv⟩ := ok.sl i _ q
        refine wpAny_Call_Name_kw (thn (pe_var n1 n2 n3 n4 pins s σ H (fun v H1 => v = .ref a ∧ H1 = H) I ⟨.ref a, es', rfl, rfl⟩) fun u s1 ⟨v, H1, I1, rv, e1, e2⟩ => ?_)
        subst e1; subst e2
        obtain rfl : u = Value.ref a := rv
        refine PySem.W.callWith_F (fv.at I1) (thn (hA pos pins s1 σ H1 (fun vs H2 => ∃ F2, Step G F H1 F2 H2 ∧ (npS es = true → Sim H1 H2) ∧ Ok X.K G F2 σ H2 δ' ∧ RelL X.K H2 F2 ds vs) I1 ⟨G, F, δ, ds, δ', ok, ea, fun vs H2 F2 st sm ok2 r2 => ⟨F2, st, sm, ok2, r2.rl n⟩⟩) fun us s2 ⟨vs, H2, I2, rvs, F2, st, sm, ok2, rl⟩ => ?_) he hpl
        have fv2 : FnV H2 m cs a := fv.keep (fz_keep ok.fd st.keep)
        refine ⟨fv2.at I2, ?_⟩
        refine wpAny_call (codeAny_mono (C.lam m cs H2 a fv2 X.A X.stack s2 H2 a us vs cs Q C.room I2.env0 rvs fv2 ⟨F2, ds, d, ok2.fd, ok2.tf, ok2.tabs, rl, hl, er'.1, er'.2, fun v H' s3 t3 r3 => ?_⟩) fun r s' hq => ?_)
        · exact post v H' F2 (st.trans (ok2.call s3 t3).2) (fun z => (sm z).trans s3) (ok2.call s3 t3).1 (relm r3)
        · cases r with
          | error e => exact (pass0 pins σ H2 s2 e s' I2 hq)
          | ok fl =>
            cases fl with
            | ret u => exact I2.after hq
            | next => exact False.elim hq
            | brk => exact False.elim hq
            | cont => exact False.elim hq
      · cases ev
noncomputable def tEsL (K : PySem.W.Frag) (cx : Cl) (es : Es) (tz : TE) : TA := fun σ H Q => ∃ G F δ ds δ', Ok K G F σ H δ ∧ evEs cx es δ = some (ds, δ') ∧
  ∀ vs H' F', Step G F H F' H' → (npS es = true → Sim H H') → Ok K G F' σ H' δ' → RelML K H' F' es ds vs → tz σ H' fun v H2 => Q (vs ++ [v]) H2
theorem snd_nilL {z : Expr} {tz : TE} (hz : PE X z tz) (hs : starEach [z] X.env = (false, eval z X.env) :: starEach [] X.env) : PA X [z] (tEsL X.K cx .nil tz) := by
  refine fun pos pins s σ H Q I h => pa_cons hz pa_nil hs pos pins s σ H Q I ?_
  obtain ⟨G, F, δ, ds, δ', ok, ev, post⟩ := h
  simp only [evEs] at ev
  cases ev
  exact post [] H F Step.refl (fun _ => Sim.refl H) ok ⟨rfl, rfl⟩
theorem snd_consL {a : E} {es : Es} {y z : Expr} {ys : List Expr} {tz : TE} (pc : (!isPk a || npS es) = true) (ha : PE X y (tE X.K cx a)) (hr : PA X (ys ++ [z]) (tEsL X.K cx es tz)) (hs : starEach (y :: (ys ++ [z])) X.env = (false, eval y X.env) :: starEach (ys ++ [z]) X.env) : PA X (y :: ys ++ [z]) (tEsL X.K cx (.cons a es) tz) := by
  refine fun pos pins s σ H Q I h => pa_cons ha hr hs pos pins s σ H Q I ?_
  obtain ⟨G, F, δ, ds, δ', ok, ev, post⟩ := h
  simp only [evEs, Option.bind_eq_bind, Option.bind_eq_some_iff] at ev
  obtain ⟨⟨x, δ1⟩, ea, ⟨ds', δ2⟩, eb, e⟩ := ev
  cases e
  refine ⟨G, F, δ, x, δ1, ok, ea, fun v H1 F1 st1 sm1 ok1 r1 => ⟨G, F1, δ1, ds', δ2, ok1, eb, fun vs H2 F2 st2 sm2 ok2 r2 => ?_⟩⟩
  refine post (v :: vs) H2 F2 (st1.trans st2) (fun z => ?_) ok2 ⟨x, ds', v, vs, rfl, rfl, RelM.step ok1.fd st2 (fun z => sm2 (by rw [z] at pc; simpa using pc)) r1, r2⟩
  have z' : (np a && npS es) = true := z
  rw [Bool.and_eq_true] at z'
  exact (sm1 z'.1).trans (sm2 z'.2)
theorem star_anyL {c : Ck} {env : Env} {pos : Pos} {z : Expr} (hz : starEach [z] env = (false, eval z env) :: starEach [] env) : ∀ {es : Es} {ys : List Expr}, ckEs c es ys = true → (backTo pos (starEach (ys ++ [z]) env)).any (·.1) = false
  | .nil, ys, h => by
    obtain ⟨rfl, _⟩ := on0_of h
    rw [List.nil_append, hz]; rfl
  | .cons e es, ys, h => by
    obtain ⟨_, _, rfl, hh⟩ := onS_of h
    rw [Bool.and_eq_true] at hh
    rw [List.cons_append, head_star (ck_head hh.1)]
    show (false || (backTo pos (starEach _ env)).any (·.1)) = false
    rw [star_anyL hz hh.2]; rfl
theorem snd_callF {c : Ck} (C : Cok X c cx k) {f i : Nat} {es : Es} {x g : Str} {y : Expr} {ys : List Expr} {a : Addr} {fd : FuncData} {ps : List Str} {p gp pos : Pos} (n : noPk es = true) (hx : nameIs c i g = true) (fn : FnOk X.prog X.w X.K X.mg X.base CX0 k a fd ps (spFF X.K (cx.call f))) (hg : Gl X x)
    (hm : X.mg x = some (.ref a)) (hk : PySem.W.keepIn X.K (.ref a) = true) (hb : Binds X.K fd ps []) (hA : PA X (y :: (ys ++ [.Name g gp])) (tEsL X.K cx es (tVar i))) (hd : (x == ("__debug__" : Str)) = false) (he : starEach (y :: (ys ++ [.Name g gp])) X.env = (false, eval y X.env) :: starEach (ys ++ [.Name g gp]) X.env) (hpl : (backTo pos (starEach (ys ++ [.Name g gp]) X.env)).any (·.1) = false) :
    PE X (.Call (.Name x p) (y :: (ys ++ [.Name g gp])) [] pos) (tE X.K cx (.callF f es i)) := by
  refine PE.imp (pe_call fn C.room hg hm hk hb .nil (pass0) hA hd he hpl) fun σ H Q h => ?_
  obtain ⟨G, F, δ, d, δ', ok, ev, post⟩ := h
  simp only [evE, Option.bind_eq_bind, Option.bind_eq_some_iff] at ev
  obtain ⟨⟨ds, δ1⟩, ea, ev⟩ := ev
  dsimp only at ev
  cases q : δ1[i]? with
  | none => rw [q] at ev; cases ev
  | some sl =>
    rw [q] at ev
    cases sl with
    | no => cases ev
    | val _ => cases ev
    | own _ => cases ev
    | fnc m cs =>
      dsimp only at ev
      split at ev
      · rw [Option.map_eq_some_iff] at ev
        obtain ⟨r, er, e⟩ := ev
        cases e
        refine ⟨G, F, δ, ds, δ', ok, ea, fun vs H1 F1 st1 sm1 ok1 r1 => ?_⟩
        obtain ⟨b, eb, fv⟩ := ok1.sl i _ q
        refine ⟨.ref b, eb, ?_⟩
        show spFF X.K (cx.call f) (vs ++ [.ref b] ++ []) H1 Q E0
        rw [List.append_nil]
        exact ⟨F1, ds, vs, m, cs, b, d, ok1.fd, ok1.tf, ok1.tabs, rfl, r1.rl n, fv, er, fun v H2 s2 t2 r2 => post v H2 F1 (st1.trans (ok1.call s2 t2).2) (fun z => (sm1 z).trans s2) (ok1.call s2 t2).1 (relm r2)⟩
      · cases ev
theorem callv_of {c : Ck} (C : Cok X c cx k) {i : Nat} {es : Es} {n : Str} {p pos : Pos} {xs : List Expr} (hA : PA X xs (tEs X.K cx es)) (h : (nameIs c i n && ckEs c es xs && noPk es && !xs.isEmpty) = true) : PE X (.Call (.Name n p) xs [] pos) (tE X.K cx (.callv i es)) := by
  simp only [Bool.and_eq_true] at h
  obtain ⟨⟨⟨h1, h2⟩, h3⟩, h4⟩ := h
  cases xs with
  | nil => simp at h4
  | cons y ys =>
    obtain ⟨_, _, _, a1, a2⟩ := ckEs_cons h2
    exact snd_callv C h1 h3 hA (head_star (ck_head a1) _ _) (star_any a2)
theorem callF_of {c : Ck} (C : Cok X c cx k) {f i : Nat} {es : Es} {n : Str} {p pos : Pos} {xs : List Expr} (hA : ckEs c es xs.dropLast = true → okEs es = true → ∀ z tz, PE X z tz → starEach [z] X.env = (false, eval z X.env) :: starEach [] X.env → PA X (xs.dropLast ++ [z]) (tEsL X.K cx es tz))
    (h : (match c.fns[f]?, xs.getLast? with
      | some (m, ps), some y => onName y fun y => decide (m = n) && globIs c n && decide (ps.length = esLen es + 1) && ckEs c es xs.dropLast && noPk es && nameIs c i y && !xs.dropLast.isEmpty
      | _, _ => false) = true) : PE X (.Call (.Name n p) xs [] pos) (tE X.K cx (.callF f es i)) := by
  split at h
  · rename_i m ps gx ef eg
    obtain ⟨g, gp, rfl, hh⟩ := onName_of h
    simp only [Bool.and_eq_true] at hh
    obtain ⟨⟨⟨⟨⟨⟨h1, h2⟩, h3⟩, h4⟩, h5⟩, h6⟩, h7⟩ := hh
    obtain ⟨ys, rfl⟩ := List.getLast?_eq_some_iff.mp eg
    rw [List.dropLast_concat] at h4 h7 hA
    by_cases hf : cx.hf f = true
    · obtain ⟨a, fd, hm, hk, hb, fn⟩ := C.fnF f _ _ ef hf
      have e := of_decide_eq_true h1
      subst e
      obtain ⟨g1, g2, g3⟩ := C.global h2
      obtain ⟨n1, n2, n3, n4⟩ := C.name h6
      have A := hA h4 (noPk_ok h5) (.Name g gp) (tVar i) (pe_var n1 n2 n3 n4) rfl
      cases ys with
      | nil => simp at h7
      | cons y ys =>
        obtain ⟨_, _, _, a1, a2⟩ := ckEs_cons h4
        exact snd_callF C h5 h6 fn g1 hm hk hb A g2 (head_star (ck_head a1) _ _) (star_anyL rfl a2)
    · intro pins s σ H Q I h
      obtain ⟨G, F, δ, d, δ', ok, ev, post⟩ := h
      simp only [evE, Option.bind_eq_bind, Option.bind_eq_some_iff] at ev
      obtain ⟨⟨ds, δ1⟩, ea, ev⟩ := ev
      dsimp only at ev
      split at ev
      · rw [if_neg hf] at ev; cases ev
      · cases ev
  · cases h
end
end PP
end
section
namespace PP
open PySem L2 PyProof.Rows
variable [Tbs]
section
variable {cx : Cl} {k : Nat}
theorem tgNames_len {c : Ck} {tg : Tg} {ts : List Str} {kk : Nat} (h : ts.length = kk) : (maskN ts c.N ++ ts).length = c.N.length + kk := by
  unfold maskN
  rw [List.length_append, List.length_map, h]
theorem ckI_set {c : Ck} {t : It} {x : Expr} (h : ckI c t x = true) (env : Env) (v : Value) : foldedSetIterable x env v = pure v := by
  cases t with
  | rng e => obtain ⟨_, _, _, _, rfl, _⟩ := onCN_of h; rfl
  | sq e =>
    have h : (ckE c e x && !isPk e) = true := h
    rw [Bool.and_eq_true] at h
    exact head_set (ck_head h.1) env v
theorem blt_any {X : Cx} {c : Ck} {f : Blt} {es : Es} {x : Expr} (C : Cok X c cx k) (h : ckE c (.blt f es) x = true) (hE : ∀ e y, es = .cons e .nil → ckE c e y = true → PE X y (tE X.K cx e)) (hA : ∀ xs, ckEs c es xs = true → okEs es = true → PA X xs (tEs X.K cx es)) :
    PE X x (tE X.K cx (.blt f es)) ∧ ∀ whole, isTrue x X.env whole = (do let v ← whole; standAt x.pos; holding [v] (truthy v)) := by
  obtain ⟨n, np, xs, p, rfl, hh⟩ := onCN_of h
  refine ⟨?_, fun _ => rfl⟩
  simp only [Bool.and_eq_true] at hh
  obtain ⟨⟨h1, h2⟩, h3⟩ := hh
  have e := of_decide_eq_true h1
  subst e
  cases hT : tyName f with
  | some T =>
    rw [hT] at h3
    obtain ⟨y, w, rfl, h4⟩ := on2_of h3
    obtain ⟨t, tp, rfl, h5⟩ := onName_of h4
    simp only [Bool.and_eq_true] at h5
    obtain ⟨⟨⟨a1, a2⟩, a3⟩, a4⟩ := h5
    have et := of_decide_eq_true a1
    cases es with
    | nil => exact absurd (on0_of a3).1 (by simp)
    | cons e es' =>
      obtain ⟨_, _, q0, a3'⟩ := onS_of a3
      cases q0
      rw [Bool.and_eq_true] at a3'
      cases es' with
      | cons _ _ => obtain ⟨_, _, q0, _⟩ := onS_of a3'.2; cases q0
      | nil =>
        have q := hE e y rfl a3'.1
        obtain ⟨t1, t2, t3⟩ := C.global a2
        have tb : t ∈ bltNames := by
          subst et
          cases f <;> simp [tyName] at hT <;> subst hT <;> decide +kernel
        have hs : starEach [y, .Name t tp] X.env = [(false, eval y X.env), (false, eval (.Name t tp) X.env)] := by rw [head_star (ck_head a3'.1)]; rfl
        have nm : bltNm f = ("isinstance" : Str) := by cases f <;> simp [tyName] at hT <;> rfl
        rw [nm] at h2 ⊢
        obtain ⟨g1, _, _⟩ := C.global h2
        exact snd_is hT et g1 (C.blt _ (by decide +kernel)) t1 (C.blt _ tb) q hs
  | none =>
    rw [hT] at h3
    simp only [Bool.and_eq_true] at h3
    obtain ⟨⟨b1, b2⟩, b3⟩ := h3
    cases xs with
    | nil => simp at b1
    | cons y ys => exact blt_of C h2 hT (hA _ b2 b3) b2
theorem callT {X : Cx} {c : Ck} {f : Nat} {es : Es} {x : Expr} (C : Cok X c cx k) (h : ckE c (.call f es) x = true) (hA : ∀ xs, ckEs c es xs = true → okEs es = true → PA X xs (tEs X.K cx es)) :
    PE X x (tE X.K cx (.call f es)) ∧ ∀ whole, isTrue x X.env whole = (do let v ← whole; standAt x.pos; holding [v] (truthy v)) := by
  obtain ⟨n, np, xs, p, rfl, hh⟩ := onCN_of h
  refine ⟨?_, fun _ => rfl⟩
  have h' := hh
  split at h'
  · simp only [Bool.and_eq_true] at h'
    exact call_of C (hA _ h'.1.1.2 (noPk_ok h'.1.2)) hh
  · cases h'
theorem noT {X : Cx} {e : E} {x : Expr} (h : ∀ δ, evT cx e δ = none) : PT X x (tT X.K cx e) := fun pins s σ H Q I q => by
  obtain ⟨G, F, δ, b, δ', ok, ev, post⟩ := q
  rw [h] at ev
  cases ev
mutual
theorem sndE : ∀ (e : E) (X : Cx) (c : Ck) (x : Expr), Cok X c cx k → ckE c e x = true → PE X x (tE X.K cx e)
  | .var i, X, c, x, C, h => by
    obtain ⟨_, _, rfl, hq1⟩ := onName_of h
    replace h := hq1
    · obtain ⟨n1, n2, n3, n4⟩ := C.name h
      exact snd_var n1 n2 n3 n4
  | .pk i, X, c, x, C, h => by
    obtain ⟨_, _, rfl, hq1⟩ := onName_of h
    replace h := hq1
    · obtain ⟨n1, n2, n3, n4⟩ := C.name h
      exact snd_pk n1 n2 n3 n4
  | .glob g, X, c, x, C, h => by
    obtain ⟨_, _, rfl, hq1⟩ := onName_of h
    replace h := hq1
    · rw [Bool.and_eq_true] at h
      have e := of_decide_eq_true h.1
      obtain ⟨g1, g2, g3⟩ := C.global h.2
      obtain ⟨d, hd⟩ := C.gsome g _ e
      obtain ⟨u, v, hm, r, hr⟩ := C.glob g _ d e hd
      exact snd_glob g1 hm r (fun d' hd' => by rw [hd] at hd'; cases hd'; exact hr) g2
  | .int i, X, c, x, C, h => by
    obtain ⟨_, _, _, rfl, hq1⟩ := onC_of h
    obtain ⟨_, rfl, hq2⟩ := onI_of hq1
    replace h := hq2
    · have e := of_decide_eq_true h; subst e; exact snd_int
  | .bl i, X, c, x, C, h => by
    obtain ⟨_, _, _, rfl, hq1⟩ := onC_of h
    obtain ⟨_, rfl, hq2⟩ := onB_of hq1
    replace h := hq2
    · have e := of_decide_eq_true h; subst e; exact snd_bl
  | .non, X, c, x, C, h => by
    obtain ⟨_, _, _, rfl, hq1⟩ := onC_of h
    replace h := hq1
    have e := isNon_of h
    subst e
    exact snd_non
  | .str i, X, c, x, C, h => by
    obtain ⟨_, _, _, rfl, hq1⟩ := onC_of h
    obtain ⟨_, rfl, hq2⟩ := onT_of hq1
    replace h := hq2
    · have e := of_decide_eq_true h; subst e; exact snd_str
  | .bin op a b, X, c, x, C, h => by
    obtain ⟨_, _, _, _, rfl, hq1⟩ := onBin_of h
    replace h := hq1
    · simp only [Bool.and_eq_true] at h
      obtain ⟨⟨⟨h1, h2⟩, h3⟩, h4⟩ := h
      exact snd_bin h1 h4 (sndE a X c _ C h2) (sndE b X c _ C h3)
  | .cmp op a b, X, c, x, C, h => by
    obtain ⟨_, _, _, _, rfl, hq1⟩ := onCmp_of h
    obtain ⟨_, rfl, hq2⟩ := on1_of hq1
    obtain ⟨_, rfl, hq3⟩ := on1_of hq2
    replace h := hq3
    · simp only [Bool.and_eq_true] at h
      obtain ⟨⟨⟨h1, h2⟩, h3⟩, h4⟩ := h
      exact snd_cmp C.units h1 h4 (sndE a X c _ C h2) (sndE b X c _ C h3) (head_mark (ck_head h3) _)
  | .and a b, X, c, x, C, h => by
    obtain ⟨o, _, p, rfl, hq1⟩ := onBo_of h
    obtain ⟨y, r, rfl, hq2⟩ := onS_of hq1
    obtain ⟨z, r2, rfl, hq3⟩ := onS_of hq2
    simp only [Bool.and_eq_true] at hq3
    obtain ⟨⟨⟨⟨h0, h1⟩, h2⟩, h3⟩, h4⟩ := hq3
    cases o <;> first | (cases h0; done) | skip
    cases r2 with
    | nil => exact snd_and h3 h4 (sndE a X c _ C h1) (pe_one (sndE b X c _ C h2))
    | cons w r => exact snd_and h3 h4 (sndE a X c _ C h1) (sndE b X c _ C h2)
  | .or a b, X, c, x, C, h => by
    obtain ⟨o, _, p, rfl, hq1⟩ := onBo_of h
    obtain ⟨y, r, rfl, hq2⟩ := onS_of hq1
    obtain ⟨z, r2, rfl, hq3⟩ := onS_of hq2
    simp only [Bool.and_eq_true] at hq3
    obtain ⟨⟨⟨⟨h0, h1⟩, h2⟩, h3⟩, h4⟩ := hq3
    cases o <;> first | (cases h0; done) | skip
    cases r2 with
    | nil => exact snd_or h3 h4 (sndE a X c _ C h1) (pe_one (sndE b X c _ C h2))
    | cons w r => exact snd_or h3 h4 (sndE a X c _ C h1) (sndE b X c _ C h2)
  | .not a, X, c, x, C, h => by
    obtain ⟨o, _, _, rfl, hh⟩ := onUn_of h
    simp only [Bool.and_eq_true] at hh
    obtain rfl := isNot_of hh.1.1
    exact snd_not hh.2 (sndE a X c _ C hh.1.2)
  | .neg a, X, c, x, C, h => by
    obtain ⟨o, _, _, rfl, hh⟩ := onUn_of h
    simp only [Bool.and_eq_true] at hh
    obtain rfl := isNeg_of hh.1.1
    exact snd_neg hh.2 (sndE a X c _ C hh.1.2)
  | .fstr t a, X, c, x, C, h => by
    obtain ⟨_, _, rfl, h1⟩ := onJS_of h
    obtain ⟨_, _, rfl, h2⟩ := on2_of h1
    rw [Bool.and_eq_true] at h2
    obtain ⟨_, _, _, rfl, h3⟩ := onC_of h2.1
    obtain ⟨_, rfl, h4⟩ := onT_of h3
    obtain ⟨_, _, _, _, rfl, h5⟩ := onFV_of h2.2
    simp only [Bool.and_eq_true] at h5
    obtain ⟨⟨⟨a1, a2⟩, a3⟩, a4⟩ := h5
    obtain rfl := of_decide_eq_true h4
    obtain rfl := of_decide_eq_true a1
    obtain rfl := Option.isNone_iff_eq_none.mp a2
    exact snd_fstr a4 (sndE a X c _ C a3)
  | .ite t a b, X, c, x, C, h => by
    obtain ⟨_, _, _, _, rfl, hq1⟩ := onIf_of h
    replace h := hq1
    · simp only [Bool.and_eq_true] at h
      obtain ⟨⟨⟨⟨h1, h2⟩, h3⟩, h4⟩, h5⟩ := h
      exact snd_ite h4 h5 (sndT t X c _ C h1) (sndE a X c _ C h2) (sndE b X c _ C h3)
  | .tup es, X, c, x, C, h => by
    obtain ⟨_, _, _, rfl, hq1⟩ := onTup_of h
    replace h := hq1
    · rw [Bool.and_eq_true] at h
      exact snd_tup h.2 (sndEs es X c _ C h.1 (noPk_ok h.2))
  | .lst es, X, c, x, C, h => by
    obtain ⟨_, _, rfl, hq1⟩ := onLst_of h
    replace h := hq1
    · rw [Bool.and_eq_true] at h
      exact snd_lst h.2 (sndEs es X c _ C h.1 (noPk_ok h.2))
  | .ix a b, X, c, x, C, h => by
    obtain ⟨_, _, _, rfl, hq1⟩ := onSub_of h
    replace h := hq1
    · simp only [Bool.and_eq_true] at h
      obtain ⟨⟨⟨h1, h2⟩, h3⟩, h4⟩ := h
      exact snd_ix h3 (sndE a X c _ C h1) (sndE b X c _ C h2) (head_ix (ck_head h2))
  | .sl a lo hi, X, c, x, C, h => by
    obtain ⟨_, _, _, rfl, hh⟩ := onSub_of h
    obtain ⟨_, _, o, _, rfl, h9⟩ := onSl_of hh
    simp only [Bool.and_eq_true] at h9
    obtain ⟨h0, ⟨⟨h1, h2⟩, h3⟩, h4⟩ := h9
    obtain rfl := Option.isNone_iff_eq_none.mp h0
    exact snd_sl (by simpa using h4) (sndE a X c _ C h1) (sndO lo X c _ C h2) (sndO hi X c _ C h3)
  | .call f es, X, c, x, C, h => (callT C h fun xs h1 h2 => sndEs es X c xs C h1 h2).1
  | .blt f .nil, X, c, x, C, h => (blt_any C h (fun e y z => by cases z) fun xs h1 h2 => sndEs .nil X c xs C h1 h2).1
  | .blt f (.cons e .nil), X, c, x, C, h => (blt_any C h (fun e' y z h1 => by cases z; exact sndE e X c y C h1) fun xs h1 h2 => sndEs (.cons e .nil) X c xs C h1 h2).1
  | .blt f (.cons e (.cons e2 es)), X, c, x, C, h => (blt_any C h (fun e' y z => by cases z) fun xs h1 h2 => sndEs (.cons e (.cons e2 es)) X c xs C h1 h2).1
  | .callv i es, X, c, x, C, h => by
    obtain ⟨_, _, _, _, rfl, hq1⟩ := onCN_of h
    replace h := hq1
    · exact callv_of C (sndEs es X c _ C (by simp only [Bool.and_eq_true] at h; exact h.1.1.2) (by simp only [Bool.and_eq_true] at h; exact noPk_ok h.1.2)) h
  | .callF f es i, X, c, x, C, h => by
    obtain ⟨_, _, _, _, rfl, hq1⟩ := onCN_of h
    replace h := hq1
    · exact callF_of C (fun h1 h2 z tz hz hs => sndEsL es X c _ z tz C h1 h2 hz hs) h
  | .comp kk tg src ifs elt, X, c, x, C, h => by
    obtain ⟨_, _, _, _, rfl, hq1⟩ := onLC_of h
    obtain ⟨_, rfl, hq2⟩ := on1_of hq1
    obtain ⟨_, _, _, rfl, hq3⟩ := onG_of hq2
    replace h := hq3
    · split at h
      · rename_i ts ht
        simp only [Bool.and_eq_true] at h
        obtain ⟨⟨⟨⟨⟨⟨⟨⟨h1, h2⟩, h3⟩, h4⟩, h5⟩, h6⟩, h7⟩, h8⟩, h9⟩ := h
        have nd := (names_of' h4).1
        exact snd_comp C h9 (tgNames_len (tg := tg) (of_decide_eq_true h1)) h2 h3 h4 (fun cl Ca s H fp => snd_tg (cok_block C h3 nd cl Ca s H fp) h5) (sndI src X c _ _ C h6)
          (fun cl Ca s H fp => sndG ifs _ _ _ (cok_block C h3 nd cl Ca s H fp) h7) (fun cl Ca s H fp => sndE elt _ _ _ (cok_block C h3 nd cl Ca s H fp) h8) (fun v => ckI_set h6 _ v)
      · cases h
theorem sndT : ∀ (e : E) (X : Cx) (c : Ck) (x : Expr), Cok X c cx k → ckE c e x = true → PT X x (tT X.K cx e)
  | .var i, X, c, x, C, h => by
    obtain ⟨_, _, rfl, hq1⟩ := onName_of h
    replace h := hq1
    · obtain ⟨n1, n2, n3, n4⟩ := C.name h
      exact sndT_var (.inl rfl) n1 n2 n3 n4
  | .pk i, X, c, x, C, h => by
    obtain ⟨_, _, rfl, hq1⟩ := onName_of h
    replace h := hq1
    · obtain ⟨n1, n2, n3, n4⟩ := C.name h
      exact sndT_var (.inr rfl) n1 n2 n3 n4
  | .cmp op a b, X, c, x, C, h => by
    obtain ⟨_, _, _, _, rfl, hq1⟩ := onCmp_of h
    obtain ⟨_, rfl, hq2⟩ := on1_of hq1
    obtain ⟨_, rfl, hq3⟩ := on1_of hq2
    replace h := hq3
    · simp only [Bool.and_eq_true] at h
      obtain ⟨⟨⟨h1, h2⟩, h3⟩, h4⟩ := h
      exact sndT_cmp C.units h1 h4 (sndE a X c _ C h2) (sndE b X c _ C h3) (head_mark (ck_head h3) _)
  | .and a b, X, c, x, C, h => by
    obtain ⟨o, _, p, rfl, hq1⟩ := onBo_of h
    obtain ⟨y, r, rfl, hq2⟩ := onS_of hq1
    obtain ⟨z, r2, rfl, hq3⟩ := onS_of hq2
    simp only [Bool.and_eq_true] at hq3
    obtain ⟨⟨⟨⟨h0, h1⟩, h2⟩, h3⟩, h4⟩ := hq3
    cases o <;> first | (cases h0; done) | skip
    cases r2 with
    | nil => exact sndT_and (sndT a X c _ C h1) (pw_and1 (sndT b X c _ C h2))
    | cons w r => exact sndT_and (sndT a X c _ C h1) (PT.pw (sndT b X c _ C h2))
  | .or a b, X, c, x, C, h => by
    obtain ⟨o, _, p, rfl, hq1⟩ := onBo_of h
    obtain ⟨y, r, rfl, hq2⟩ := onS_of hq1
    obtain ⟨z, r2, rfl, hq3⟩ := onS_of hq2
    simp only [Bool.and_eq_true] at hq3
    obtain ⟨⟨⟨⟨h0, h1⟩, h2⟩, h3⟩, h4⟩ := hq3
    cases o <;> first | (cases h0; done) | skip
    cases r2 with
    | nil => exact sndT_or (sndT a X c _ C h1) (pw_or1 (sndT b X c _ C h2))
    | cons w r => exact sndT_or (sndT a X c _ C h1) (PT.pw (sndT b X c _ C h2))
  | .not a, X, c, x, C, h => by
    obtain ⟨o, _, _, rfl, hh⟩ := onUn_of h
    simp only [Bool.and_eq_true] at hh
    obtain rfl := isNot_of hh.1.1
    exact sndT_not (sndT a X c _ C hh.1.2)
  | .call f es, X, c, x, C, h => sndT_of (es := es) (f := cx.call f) (callT C h fun xs h1 h2 => sndEs es X c xs C h1 h2).1 (callT C h fun xs h1 h2 => sndEs es X c xs C h1 h2).2 rfl (fun δ => by rw [evE]) fun δ => by rw [evT]
  | .blt f .nil, X, c, x, C, h => sndT_of (es := .nil) (f := bltD f) (blt_any C h (fun e y z => by cases z) fun xs h1 h2 => sndEs .nil X c xs C h1 h2).1 (blt_any C h (fun e y z => by cases z) fun xs h1 h2 => sndEs .nil X c xs C h1 h2).2 rfl (fun δ => by rw [evE]) fun δ => by rw [evT]
  | .blt f (.cons e .nil), X, c, x, C, h => sndT_of (es := .cons e .nil) (f := bltD f) (blt_any C h (fun e' y z h1 => by cases z; exact sndE e X c y C h1) fun xs h1 h2 => sndEs (.cons e .nil) X c xs C h1 h2).1 (blt_any C h (fun e' y z h1 => by cases z; exact sndE e X c y C h1) fun xs h1 h2 => sndEs (.cons e .nil) X c xs C h1 h2).2 rfl (fun δ => by rw [evE]) fun δ => by rw [evT]
  | .blt f (.cons e (.cons e2 es)), X, c, x, C, h => sndT_of (es := .cons e (.cons e2 es)) (f := bltD f) (blt_any C h (fun e' y z => by cases z) fun xs h1 h2 => sndEs (.cons e (.cons e2 es)) X c xs C h1 h2).1 (blt_any C h (fun e' y z => by cases z) fun xs h1 h2 => sndEs (.cons e (.cons e2 es)) X c xs C h1 h2).2 rfl (fun δ => by rw [evE]) fun δ => by rw [evT]
  | .callv _ _, X, c, x, C, h => noT fun δ => by rw [evT] <;> intros <;> simp_all
  | .callF _ _ _, X, c, x, C, h => noT fun δ => by rw [evT] <;> intros <;> simp_all
  | .glob _, X, c, x, C, h => noT fun δ => by rw [evT] <;> intros <;> simp_all
  | .int _, X, c, x, C, h => noT fun δ => by rw [evT] <;> intros <;> simp_all
  | .bl _, X, c, x, C, h => noT fun δ => by rw [evT] <;> intros <;> simp_all
  | .non, X, c, x, C, h => noT fun δ => by rw [evT] <;> intros <;> simp_all
  | .str _, X, c, x, C, h => noT fun δ => by rw [evT] <;> intros <;> simp_all
  | .neg _, X, c, x, C, h => noT fun δ => by rw [evT] <;> intros <;> simp_all
  | .fstr .., X, c, x, C, h => noT fun δ => by rw [evT] <;> intros <;> simp_all
  | .bin .., X, c, x, C, h => noT fun δ => by rw [evT] <;> intros <;> simp_all
  | .ite .., X, c, x, C, h => noT fun δ => by rw [evT] <;> intros <;> simp_all
  | .tup _, X, c, x, C, h => noT fun δ => by rw [evT] <;> intros <;> simp_all
  | .lst _, X, c, x, C, h => noT fun δ => by rw [evT] <;> intros <;> simp_all
  | .ix .., X, c, x, C, h => noT fun δ => by rw [evT] <;> intros <;> simp_all
  | .sl .., X, c, x, C, h => noT fun δ => by rw [evT] <;> intros <;> simp_all
  | .comp .., X, c, x, C, h => noT fun δ => by rw [evT] <;> intros <;> simp_all
theorem sndEs : ∀ (es : Es) (X : Cx) (c : Ck) (xs : List Expr), Cok X c cx k → ckEs c es xs = true → okEs es = true → PA X xs (tEs X.K cx es)
  | .nil, X, c, xs, C, h, _ => by
    obtain ⟨rfl, hq1⟩ := on0_of h
    replace h := hq1
    · exact snd_nil
  | .cons e es, X, c, xs, C, h, ho => by
    obtain ⟨_, _, rfl, hq1⟩ := onS_of h
    replace h := hq1
    · rw [Bool.and_eq_true] at h
      have ho' : ((!isPk e || npS es) && okEs es) = true := ho
      rw [Bool.and_eq_true] at ho'
      exact snd_cons ho'.1 (sndE e X c _ C h.1) (sndEs es X c _ C h.2 ho'.2) (head_star (ck_head h.1) _ _)
theorem sndEsL : ∀ (es : Es) (X : Cx) (c : Ck) (xs : List Expr) (z : Expr) (tz : TE), Cok X c cx k → ckEs c es xs = true → okEs es = true → PE X z tz → starEach [z] X.env = (false, eval z X.env) :: starEach [] X.env → PA X (xs ++ [z]) (tEsL X.K cx es tz)
  | .nil, X, c, xs, z, tz, C, h, _, hz, hs => by
    obtain ⟨rfl, hq1⟩ := on0_of h
    replace h := hq1
    · exact snd_nilL hz hs
  | .cons e es, X, c, xs, z, tz, C, h, ho, hz, hs => by
    obtain ⟨_, _, rfl, hq1⟩ := onS_of h
    replace h := hq1
    · rw [Bool.and_eq_true] at h
      have ho' : ((!isPk e || npS es) && okEs es) = true := ho
      rw [Bool.and_eq_true] at ho'
      exact snd_consL ho'.1 (sndE e X c _ C h.1) (sndEsL es X c _ z tz C h.2 ho'.2 hz hs) (head_star (ck_head h.1) _ _)
theorem sndO : ∀ (o : Eo) (X : Cx) (c : Ck) (l : Option Expr), Cok X c cx k → ckO c o l = true → PO X l (tO X.K cx o)
  | .no, X, c, l, C, h => by
    obtain rfl := Option.isNone_iff_eq_none.mp h
    exact snd_o (fun e z => by cases z) fun _ => rfl
  | .yes e, X, c, l, C, h => by
    obtain ⟨_, rfl, hq1⟩ := onO_of h
    replace h := hq1
    · rw [Bool.and_eq_true] at h
      have q := sndE e X c _ C h.1
      exact snd_o (fun e' z => by cases z; exact ⟨_, rfl, h.2, q⟩) fun z => by cases z
theorem sndG : ∀ (o : Eo) (X : Cx) (c : Ck) (l : List Expr), Cok X c cx k → ckG c o l = true → PTs X l (tG X.K cx o)
  | .no, X, c, l, C, h => by
    obtain ⟨rfl, hq1⟩ := on0_of h
    replace h := hq1
    · intro pins s σ H Q I q
      obtain ⟨G, F, δ, b, δ', ok, ev, post⟩ := q
      simp only [evG] at ev
      cases ev
      exact pts_nil pins s σ H Q I (post H F Step.refl (fun _ => Sim.refl H) ok)
  | .yes e, X, c, l, C, h => by
    obtain ⟨_, rfl, hq1⟩ := on1_of h
    replace h := hq1
    · have q := pts_one (sndT e X c _ C h)
      intro pins s σ H Q I z
      obtain ⟨G, F, δ, b, δ', ok, ev, post⟩ := z
      simp only [evG] at ev
      exact q pins s σ H Q I ⟨G, F, δ, b, δ', ok, ev, post⟩
theorem sndI : ∀ (t : It) (X : Cx) (c : Ck) (x tg : Expr), Cok X c cx k → ckI c t x = true → PI X tg x (tI X.K cx t)
  | .rng e, X, c, x, tg, C, h => by
    obtain ⟨_, _, _, _, rfl, hq1⟩ := onCN_of h
    obtain ⟨_, rfl, hq2⟩ := on1_of hq1
    replace h := hq2
    · simp only [Bool.and_eq_true] at h
      obtain ⟨⟨⟨h1, h2⟩, h3⟩, h4⟩ := h
      have z := of_decide_eq_true h1
      subst z
      exact snd_rng h4 (C.global h2).1 (C.blt _ (by decide +kernel)) (sndE e X c _ C h3) (head_star (ck_head h3) _ _)
  | .sq e, X, c, x, tg, C, h => by
    have h : (ckE c e x && !isPk e) = true := h
    rw [Bool.and_eq_true] at h
    exact snd_sq h.2 (sndE e X c x C h.1)
end
end
end PP
end
section
namespace PP
open PySem L2 PyProof.Rows
variable [Tbs]
noncomputable def PostS (K : PySem.W.Frag) (G : Gh) (F : Addr → Prop) (H : Hp) (o : Out) (E : Ends) : Prop := match o with
  | .nx δ' => ∀ σ' H' F', Step G F H F' H' → Ok K G F' σ' H' δ' → E.nx σ' H'
  | .rt d δ' => ∀ v σ' H' F', Step G F H F' H' → Ok K G F' σ' H' δ' → Rel K H' F' d v → E.rt v H'
  | .bk δ' => ∀ σ' H' F', Step G F H F' H' → Ok K G F' σ' H' δ' → E.bk σ' H'
  | .ct δ' => ∀ σ' H' F', Step G F H F' H' → Ok K G F' σ' H' δ' → E.ct σ' H'
  | .ro ds δ' => ∀ a xs σ' H' F', Step G F H F' H' → Ok K G F' σ' H' δ' → F' a → G.free a → H' a = some (.lst xs) → RelL K H' F' ds xs → E.rt (.ref a) H'
noncomputable def tS (K : PySem.W.Frag) (ev : Loc → Option Out) : TS := fun E σ H => ∃ G F δ o, Ok K G F σ H δ ∧ ev δ = some o ∧ PostS K G F H o E
theorem PostS.step {K : PySem.W.Frag} {G : Gh} {F F1 : Addr → Prop} {H H1 : Hp} {o : Out} {E : Ends} (st : Step G F H F1 H1) (h : PostS K G F H o E) : PostS K G F1 H1 o E := by
  cases o with
  | nx δ => exact fun σ' H' F' s k => h σ' H' F' (st.trans s) k
  | rt d δ => exact fun v σ' H' F' s k r => h v σ' H' F' (st.trans s) k r
  | bk δ => exact fun σ' H' F' s k => h σ' H' F' (st.trans s) k
  | ct δ => exact fun σ' H' F' s k => h σ' H' F' (st.trans s) k
  | ro ds δ => exact fun a xs σ' H' F' s k => h a xs σ' H' F' (st.trans s) k
section
variable {X : Cx} {c : Ck} {cx : Cl} {k : Nat}
theorem PS.imp {s : Stmt} {t t' : TS} (h : PS X s t) (w : ∀ E σ H, t' E σ H → t E σ H) : PS X s t' := fun pins s σ H E I q => h pins s σ H E I (w E σ H q)
theorem PSs.imp {s : List Stmt} {t t' : TS} (h : PSs X s t) (w : ∀ E σ H, t' E σ H → t E σ H) : PSs X s t' := fun pins s σ H E I q => h pins s σ H E I (w E σ H q)
theorem sndS_nil : PSs X [] (tS X.K (evSs cx .nil)) := PSs.imp pss_nil fun E σ H ⟨G, F, δ, o, ok, ev, post⟩ => by
  simp only [evSs] at ev
  cases ev
  exact post σ H F Step.refl ok
theorem sndS_cons {s : S} {ss : Ss} {y : Stmt} {ys : List Stmt} (h1 : PS X y (tS X.K (evS cx s))) (h2 : PSs X ys (tS X.K (evSs cx ss))) : PSs X (y :: ys) (tS X.K (evSs cx (.cons s ss))) := PSs.imp (pss_cons h1 h2) fun E σ H ⟨G, F, δ, o, ok, ev, post⟩ => by
  simp only [evSs] at ev
  cases e : evS cx s δ with
  | none => rw [e] at ev; cases ev
  | some o1 =>
    rw [e] at ev
    cases o1 with
    | nx δ1 => exact ⟨G, F, δ, .nx δ1, ok, e, fun σ' H' F' st ok' => ⟨G, F', δ1, o, ok', ev, post.step st⟩⟩
    | rt d δ1 => cases ev; exact ⟨G, F, δ, _, ok, e, post⟩
    | bk δ1 => cases ev; exact ⟨G, F, δ, _, ok, e, post⟩
    | ct δ1 => cases ev; exact ⟨G, F, δ, _, ok, e, post⟩
    | ro d δ1 => cases ev; exact ⟨G, F, δ, _, ok, e, post⟩
theorem asg_ev {tg : Tg} {e : E} {δ : Loc} {o : Out} (ev : evS cx (.asg tg e) δ = some o) : ∃ d δ1 δ2, evE cx e δ = some (d, δ1) ∧ setTg δ1 tg d = some δ2 ∧ o = .nx δ2 := by
  simp only [evS, Option.bind_eq_bind, Option.bind_eq_some_iff] at ev
  obtain ⟨⟨d, δ1⟩, e1, δ2, e2, e3⟩ := ev
  cases e3
  exact ⟨d, δ1, δ2, e1, e2, rfl⟩
theorem asg_of {tg : Tg} {e : E} (n : (!isPk e) = true) {E : Ends} {σ : L2.St} {H : Hp} (h : tS X.K (evS cx (.asg tg e)) E σ H) : tAsg (tE X.K cx e) (gTg X.K tg) E σ H := by
  obtain ⟨G, F, δ, o, ok, ev, post⟩ := h
  obtain ⟨d, δ1, δ2, e1, e2, rfl⟩ := asg_ev ev
  exact ⟨G, F, δ, d, δ1, ok, e1, fun v H1 F1 st sm ok1 r => tg_read ok1 (rel_of n r) e2 fun σ' ok2 _ => post σ' H1 F1 st ok2⟩
theorem sndS_asg (C : Cok X c cx k) {tg : Tg} {e : E} {t y : Expr} {pos : Pos} (hm : (isNm t || !isTp y) = true) (h : ckTg c tg t = true) (hy : ckE c e y = true) (n : (!isPk e) = true) (nc : (!isComp y) = true) (he : PE X y (tE X.K cx e)) : PS X (.Assign [t] y pos) (tS X.K (evS cx (.asg tg e))) := by
  have hh := ck_head hy
  have nc' : isComp y = false := by simpa using nc
  have hs : swapsWithSole [t] y pos.line X.env = pure false := head_swaps hh nc' _ _ _
  have hw : swappedStores [t] y X.env = pure none := by
    rcases tg_shape h with ⟨_, _, rfl⟩ | ⟨_, _, _, rfl⟩
    · cases y <;> first | rfl | (exact absurd hh Bool.false_ne_true)
    · cases y <;> first | rfl | (exact absurd hm Bool.false_ne_true) | (exact absurd hh Bool.false_ne_true)
  have h1 : (assignEach [t] X.env).map (·.2) = [assign t X.env] := by
    rcases tg_shape h with ⟨_, _, rfl⟩ | ⟨_, _, _, rfl⟩ <;> rfl
  exact PS.imp (ps_asg he (snd_tg C h) hs hw h1) fun E σ H h => asg_of n h
noncomputable def tN (K : PySem.W.Frag) (cx : Cl) (e : E) : TE := fun σ H Q => ∃ G F δ ds δ', Ok K G F σ H δ ∧ evE cx e δ = some (.lst ds, δ') ∧
  ∀ p xs H1 F1, Step G F H F1 H1 → Ok K G F1 σ H1 δ' → H1 p = none → RelL K H1 F1 ds xs → Q (.ref p) (upd H1 p (.lst xs))
theorem own_new {K : PySem.W.Frag} {G : Gh} {F1 : Addr → Prop} {σ : L2.St} {H1 : Hp} {δ1 : Loc} {i : Nat} {p : Addr} {ds : List D} {xs : List V} (ok1 : Ok K G F1 σ H1 δ1) (hp : H1 p = none) (rl : RelL K H1 F1 ds xs) (hi : i < δ1.length) :
    Ok K G (fun b => F1 b ∨ b = p) (σ.set i (some (.ref p))) (upd H1 p (.lst xs)) (δ1.set i (.own ds)) ∧ Step G F1 H1 (fun b => F1 b ∨ b = p) (upd H1 p (.lst xs)) := by
  obtain ⟨o1, o2⟩ := ok1.enter hp xs
  refine ⟨(o1.keep).own hi (.inr rfl) (ok1.free hp) upd_same (RelL.step ok1.fd o2 ds xs rl) fun j es e z => ?_, o2⟩
  obtain ⟨a, ys, e1, _, _, e2, _⟩ := ok1.sl j _ e
  rw [z] at e1
  cases e1
  rw [hp] at e2
  cases e2
theorem sndS_new (C : Cok X c cx k) {i : Nat} {e : E} {t : Str} {y : Expr} {pos p2 : Pos} (h : nameTo c i t = true) (hy : ckE c e y = true) (nc : (!isComp y) = true) (he : PE X y (tN X.K cx e)) : PS X (.Assign [.Name t p2] y pos) (tS X.K (evS cx (.new i e))) := by
  obtain ⟨n1, n2, n3⟩ := C.to h
  have nc' : isComp y = false := by simpa using nc
  refine PS.imp (ps_set C.nd' n1 n2 he (head_swaps (ck_head hy) nc' _ _ _) n3) fun E σ H ⟨G, F, δ, o, ok, ev, post⟩ => ?_
  simp only [evS, Option.bind_eq_bind, Option.bind_eq_some_iff] at ev
  obtain ⟨⟨d, δ1⟩, e1, ev⟩ := ev
  cases d with
  | lst ds =>
    dsimp only at ev
    split at ev
    · cases ev
      refine ⟨G, F, δ, ds, δ1, ok, e1, fun p xs H1 F1 st ok1 hp rl => ?_⟩
      obtain ⟨o1, o2⟩ := own_new ok1 hp rl ‹_›
      exact post _ _ _ (st.trans o2) o1
    · cases ev
  | _ => cases ev
theorem sndN_lst {es : Es} {xs : List Expr} {pos : Pos} (n : noPk es = true) (h : PA X xs (tEs X.K cx es)) : PE X (.List xs pos) (tN X.K cx (.lst es)) := by
  refine PE.imp (pe_lst h) fun σ H Q h => ?_
  obtain ⟨G, F, δ, d, δ', ok, ev, post⟩ := h
  simp only [evE, Option.bind_eq_bind, Option.bind_eq_some_iff] at ev
  obtain ⟨⟨ds, δ1⟩, ea, ev⟩ := ev
  split at ev
  · rename_i hz
    cases ev
    refine ⟨G, F, δ, ds, δ1, ok, ea, fun vs H1 F1 st1 sm1 ok1 r1 => ?_⟩
    have r := r1.rl n
    exact ⟨by rw [r.length]; exact hz, fun p hp => post p vs H1 F1 st1 ok1 hp r⟩
  · cases ev
theorem sndN_list (C : Cok X c cx k) {es : Es} {p pos : Pos} {y : Expr} {ys : List Expr} (hg : globIs c (bltNm .toLst) = true) (hA : PA X (y :: ys) (tEs X.K cx es)) (h : ckEs c es (y :: ys) = true) : PE X (.Call (.Name (bltNm .toLst) p) (y :: ys) [] pos) (tN X.K cx (.blt .toLst es)) := by
  obtain ⟨g1, g2, g3⟩ := C.global hg
  obtain ⟨e, es', rfl, h1, h2⟩ := ckEs_cons h
  have he := head_star (ck_head h1) ys X.env
  have hpl := star_any (env := X.env) (pos := pos) h2
  refine PE.imp (pe_callTy call_list_of g1 (C.blt _ (by decide +kernel)) rfl hA g3 g2 he hpl) fun σ H Q h => ?_
  obtain ⟨G, F, δ, ds, δ', ok, ev, post⟩ := h
  simp only [evE] at ev
  obtain ⟨zs, ea, hd⟩ := es_ev ev
  refine ⟨G, F, δ, zs, δ', ok, ea, fun vs H1 F1 st1 sm1 ok1 r1 => ?_⟩
  have r := r1.bl
  change toLstD zs = some (D.lst ds) at hd
  unfold toLstD at hd
  split at hd
  · cases hd
    obtain ⟨v, rfl, r9⟩ := b1 r
    obtain ⟨a, ws, rfl, h1, h2⟩ := r9.lst
    exact ⟨a, ws, rfl, .inl h1.sq, fun l hl => post l ws H1 F1 st1 ok1 hl h2⟩
  · cases hd
    obtain ⟨v, rfl, r9⟩ := b1 r
    obtain ⟨a, ws, rfl, h1, h2⟩ := r9.tup
    exact ⟨a, ws, rfl, .inr h1, fun l hl => post l ws H1 F1 st1 ok1 hl h2⟩
  · cases hd
theorem sndN_sl {a : E} {lo hi : Eo} {y : Expr} {l h : Option Expr} {pos p2 : Pos} (pc : (!isPk a || (npO lo && npO hi)) = true) (ha : PE X y (tE X.K cx a)) (hl : PO X l (tO X.K cx lo)) (hh : PO X h (tO X.K cx hi)) : PE X (.Subscript y (.Slice l h none p2) pos) (tN X.K cx (.sl a lo hi)) := by
  refine PE.imp (pe_slice sl_list ha hl hh) fun σ H Q h => ?_
  obtain ⟨G, F, δ, ds, δ', ok, ev, post⟩ := h
  simp only [evE, Option.bind_eq_bind, Option.bind_eq_some_iff] at ev
  obtain ⟨⟨x, δ1⟩, ea, ⟨l', δ2⟩, eb, ⟨h', δ3⟩, ec, d', hd, e⟩ := ev
  cases e
  dsimp only at eb ec hd post
  refine ⟨G, F, δ, x, δ1, ok, ea, fun v H1 F1 st1 sm1 ok1 r1 => ⟨G, F1, δ1, l', δ2, ok1, eb, fun H2 F2 st2 sm2 ok2 => ⟨G, F2, δ2, h', δ3, ok2, ec, fun H3 F3 st3 sm3 ok3 => ?_⟩⟩⟩
  have st := st2.trans st3
  have rb : RelB X.K H3 F3 x v := by
    refine (RelM.step ok1.fd st (fun z => ?_) r1).b
    rw [z] at pc
    have pc' : (npO lo && npO hi) = true := by simpa using pc
    rw [Bool.and_eq_true] at pc'
    exact (sm2 pc'.1).trans (sm3 pc'.2)
  unfold slD at hd
  split at hd
  · cases hd
    obtain ⟨p, xs, e1, h1, h2⟩ := rb.lst
    exact ⟨p, xs, e1, h1.sq, fun q hq => post q _ H3 F3 (st1.trans st) ok3 hq (h2.cut l' h')⟩
  · split at hd
    · cases hd
    · cases hd
  · cases hd
end
end PP
end
section
namespace PP
open PySem L2 PyProof.Rows
variable [Tbs]
section
variable {X : Cx} {c : Ck} {cx : Cl} {k : Nat}
theorem sndS_aug (C : Cok X c cx k) {i : Nat} {op : Op} {o : Operator} {e : E} {t : Str} {y : Expr} {pos p2 : Pos} (h : nameTo c i t = true) (ho : opIs op o = true) (n : (!isPk e) = true) (he : PE X y (tE X.K cx e)) : PS X (.AugAssign (.Name t p2) o y pos) (tS X.K (evS cx (.aug i op e))) := by
  obtain ⟨n1, n2, n3⟩ := C.to h
  have inv : ∀ {δ : Loc} {out : Out}, evS cx (.aug i op e) δ = some out → ∃ a b δ1, δ[i]? = some (.val (.int a)) ∧ evE cx e δ = some (.int b, δ1) ∧ ((op = .add ∧ out = .nx (δ1.set i (.val (.int (a + b))))) ∨ (op = .sub ∧ out = .nx (δ1.set i (.val (.int (a - b)))))) := by
    intro δ out ev
    simp only [evS] at ev
    cases q : δ[i]? with
    | none => rw [q] at ev; cases ev
    | some s =>
      rw [q] at ev
      cases s with
      | no => cases ev
      | fnc _ _ => cases ev
      | own _ => cases ev
      | val x =>
        simp only [Option.bind_eq_bind, Option.bind_eq_some_iff] at ev
        obtain ⟨⟨d, δ1⟩, e1, ev⟩ := ev
        dsimp only at ev
        split at ev
        · cases ev; exact ⟨_, _, δ1, rfl, e1, .inl ⟨rfl, rfl⟩⟩
        · cases ev; exact ⟨_, _, δ1, rfl, e1, .inr ⟨rfl, rfl⟩⟩
        · cases ev
  cases op with
  | add =>
    cases o <;> first | (exact absurd ho Bool.false_ne_true) | skip
    refine PS.imp (ps_aug C.nd' n1 n2 he ip_add n3) fun E σ H ⟨G, F, δ, out, ok, ev, post⟩ => ?_
    obtain ⟨a, b, δ1, e1, e2, ⟨_, rfl⟩ | ⟨z, _⟩⟩ := inv ev
    · obtain ⟨v, ev, r⟩ := ok.sl i _ e1
      unfold Rel at r
      subst r
      refine ⟨_, ev, G, F, δ, _, δ1, ok, e2, fun u H1 F1 st sm ok1 r1 => ?_⟩
      have := r1.b.int
      subst this
      exact ⟨a, b, rfl, rfl, post _ H1 F1 st (ok1.set (by rw [ok1.len, ← ok.len]; exact (List.getElem?_eq_some_iff.mp e1).1) (rel_int _))⟩
    · cases z
  | sub =>
    cases o <;> first | (exact absurd ho Bool.false_ne_true) | skip
    refine PS.imp (ps_aug C.nd' n1 n2 he ip_sub n3) fun E σ H ⟨G, F, δ, out, ok, ev, post⟩ => ?_
    obtain ⟨a, b, δ1, e1, e2, ⟨z, _⟩ | ⟨_, rfl⟩⟩ := inv ev
    · cases z
    · obtain ⟨v, ev, r⟩ := ok.sl i _ e1
      unfold Rel at r
      subst r
      refine ⟨_, ev, G, F, δ, _, δ1, ok, e2, fun u H1 F1 st sm ok1 r1 => ?_⟩
      have := r1.b.int
      subst this
      exact ⟨a, b, rfl, rfl, post _ H1 F1 st (ok1.set (by rw [ok1.len, ← ok.len]; exact (List.getElem?_eq_some_iff.mp e1).1) (rel_int _))⟩
  | _ =>
    refine PS.imp ps_never fun E σ H ⟨G, F, δ, out, ok, ev, post⟩ => ?_
    obtain ⟨a, b, δ1, e1, e2, ⟨z, _⟩ | ⟨z, _⟩⟩ := inv ev
    · cases z
    · cases z
theorem sndS_ret {e : E} {y : Expr} {pos : Pos} (n : (!isPk e) = true) (he : PE X y (tE X.K cx e)) : PS X (.Return (some y) pos) (tS X.K (evS cx (.ret e))) := PS.imp (ps_ret he) fun E σ H ⟨G, F, δ, out, ok, ev, post⟩ => by
  simp only [evS, Option.bind_eq_bind, Option.bind_eq_some_iff] at ev
  obtain ⟨⟨d, δ1⟩, e1, ev⟩ := ev
  cases ev
  exact ⟨G, F, δ, d, δ1, ok, e1, fun v H1 F1 st sm ok1 r => post v σ H1 F1 st ok1 (rel_of n r)⟩
theorem sndS_retN {pos : Pos} : PS X (.Return none pos) (tS X.K (evS cx .retN)) := PS.imp ps_retN fun E σ H ⟨G, F, δ, out, ok, ev, post⟩ => by
  simp only [evS] at ev
  cases ev
  exact post .non σ H F Step.refl ok rel_non
theorem sndS_ifs {t : E} {a b : Ss} {y : Expr} {ya yb : List Stmt} {pos : Pos} (ht : PT X y (tT X.K cx t)) (ha : PSs X ya (tS X.K (evSs cx a))) (hb : PSs X yb (tS X.K (evSs cx b))) : PS X (.If y ya yb pos) (tS X.K (evS cx (.ifs t a b))) := PS.imp (ps_if ht ha hb) fun E σ H ⟨G, F, δ, out, ok, ev, post⟩ => by
  simp only [evS, Option.bind_eq_bind, Option.bind_eq_some_iff] at ev
  obtain ⟨⟨q, δ1⟩, e1, ev⟩ := ev
  refine ⟨G, F, δ, q, δ1, ok, e1, fun H1 F1 st sm ok1 => ?_⟩
  cases q with
  | true => exact iteT ⟨G, F1, δ1, out, ok1, ev, post.step st⟩
  | false => exact iteF ⟨G, F1, δ1, out, ok1, ev, post.step st⟩
theorem sndS_pass {pos : Pos} : PS X (.Pass pos) (tS X.K (evS cx .pass)) := PS.imp ps_pass fun E σ H ⟨G, F, δ, out, ok, ev, post⟩ => by
  simp only [evS] at ev
  cases ev
  exact post σ H F Step.refl ok
theorem sndS_brk {pos : Pos} : PS X (.Break pos) (tS X.K (evS cx .brk)) := PS.imp ps_break fun E σ H ⟨G, F, δ, out, ok, ev, post⟩ => by
  simp only [evS] at ev
  cases ev
  exact post σ H F Step.refl ok
theorem sndS_cont {pos : Pos} : PS X (.Continue pos) (tS X.K (evS cx .cont)) := PS.imp ps_continue fun E σ H ⟨G, F, δ, out, ok, ev, post⟩ => by
  simp only [evS] at ev
  cases ev
  exact post σ H F Step.refl ok
theorem sndS_for (C : Cok X c cx k) {tg : Tg} {src : It} {body : Ss} {t it : Expr} {ys : List Stmt} {pos : Pos} (htg : ckTg c tg t = true) (hI : PI X t it (tI X.K cx src)) (hset : ∀ v, foldedSetIterable it X.env v = pure v) (hb : PSs X ys (tS X.K (evSs cx body))) : PS X (.For t it ys [] pos) (tS X.K (evS cx (.for_ tg src body))) := by
  have hp : PassesOwn (model X.prog X.w) X.A X.env X.xe := by rw [C.xe]; exact PassesOwn.never
  refine PS.imp (ps_for hp C.calm hI (snd_tg C htg) hb hset) fun E σ H ⟨G, F, δ, out, ok, ev, post⟩ => ?_
  simp only [evS, Option.bind_eq_bind, Option.bind_eq_some_iff] at ev
  obtain ⟨⟨ds, δ1⟩, e1, ev⟩ := ev
  dsimp only at ev
  generalize ef : (fun (x : D) (δ0 : Loc) => match setTg δ0 tg x with | some δ2 => evSs cx body δ2 | none => none) = f at ev
  refine ⟨G, F, δ, ds, δ1, ok, e1, fun J H1 F1 st sm ok1 wk => ?_⟩
  refine ⟨fun i m σ' H' => ∃ F' δ', m = ds.length - i ∧ i ≤ ds.length ∧ Step G F1 H1 F' H' ∧ Ok X.K G F' σ' H' δ' ∧ forL f (ds.drop i) δ' = some out, ⟨_, F1, δ1, rfl, Nat.zero_le _, Step.refl, ok1, ev⟩, ?_⟩
  rintro i m σ' H' ⟨F', δ', rfl, hi, st', ok', ev'⟩
  by_cases hlt : i < ds.length
  · right
    obtain ⟨d, hd⟩ : ∃ d, ds[i]? = some d := ⟨ds[i], by simp [hlt]⟩
    obtain ⟨go, yl⟩ := (wk _ F' H' st' ok'.fd i).1 d hd
    refine ⟨go, ?_⟩
    have edr : ds.drop i = d :: ds.drop (i + 1) := by
      rw [List.drop_eq_getElem_cons hlt]
      congr 1
      rw [List.getElem?_eq_getElem hlt] at hd
      exact Option.some.inj hd
    rw [edr] at ev'
    unfold forL at ev'
    refine ⟨fun σ2 H2 => ∃ m', m' < ds.length - i ∧ ∃ F2 δ2, m' = ds.length - (i + 1) ∧ i + 1 ≤ ds.length ∧ Step G F1 H1 F2 H2 ∧ Ok X.K G F2 σ2 H2 δ2 ∧ forL f (ds.drop (i + 1)) δ2 = some out, fun σ2 H2 z => z, fun x H3 hy => ?_⟩
    obtain ⟨e3, rx⟩ := yl x H3 hy
    subst e3
    cases hf : f d δ' with
    | none => rw [hf] at ev'; cases ev'
    | some o1 =>
      have hf' := hf
      rw [← ef] at hf'
      dsimp only at hf'
      cases hs : setTg δ' tg d with
      | none => rw [hs] at hf'; cases hf'
      | some δ2 =>
        rw [hs] at hf'
        refine tg_read ok' rx hs fun σ2 ok2 _ => ⟨G, F', δ2, o1, ok2, hf', ?_⟩
        rw [hf] at ev'
        cases o1 with
        | nx δ3 => exact fun σ3 H4 F4 s4 k4 => ⟨_, by omega, F4, δ3, rfl, hlt, st'.trans s4, k4, ev'⟩
        | ct δ3 => exact fun σ3 H4 F4 s4 k4 => ⟨_, by omega, F4, δ3, rfl, hlt, st'.trans s4, k4, ev'⟩
        | bk δ3 =>
          cases ev'
          exact fun σ3 H4 F4 s4 k4 => post σ3 H4 F4 ((st.trans st').trans s4) k4
        | rt d3 δ3 =>
          cases ev'
          exact fun v σ3 H4 F4 s4 k4 r4 => post v σ3 H4 F4 ((st.trans st').trans s4) k4 r4
        | ro d3 δ3 =>
          cases ev'
          exact fun a xs σ3 H4 F4 s4 k4 => post a xs σ3 H4 F4 ((st.trans st').trans s4) k4
  · left
    have hi' : i = ds.length := by omega
    subst hi'
    refine ⟨(wk _ F' H' st' ok'.fd ds.length).2 rfl, ?_⟩
    rw [List.drop_length] at ev'
    cases ev'
    exact post σ' H' F' (st.trans st') ok'
theorem sndS_while (C : Cok X c cx k) {t : E} {body : Ss} {y : Expr} {ys : List Stmt} {pos : Pos} (ht : PT X y (tT X.K cx t)) (hb : PSs X ys (tS X.K (evSs cx body))) : PS X (.While y ys [] pos) (tS X.K (evS cx (.while_ t body))) := by
  have hp : PassesOwn (model X.prog X.w) X.A X.env X.xe := by rw [C.xe]; exact PassesOwn.never
  refine PS.imp (ps_while hp ht hb) fun E σ H ⟨G, F, δ, out, ok, ev, post⟩ => ?_
  simp only [evS] at ev
  refine ⟨fun m σ' H' => ∃ F' δ', Step G F H F' H' ∧ Ok X.K G F' σ' H' δ' ∧ whileL (fun δ0 => evT cx t δ0) (fun δ0 => evSs cx body δ0) m δ' = some out, ⟨1000, F, δ, Step.refl, ok, ev⟩, ?_⟩
  rintro m σ' H' ⟨F', δ', st', ok', ev'⟩
  cases m with
  | zero => cases ev'
  | succ m =>
    unfold whileL at ev'
    cases ec : evT cx t δ' with
    | none => rw [ec] at ev'; cases ev'
    | some q =>
      obtain ⟨b, δ1⟩ := q
      rw [ec] at ev'
      refine ⟨G, F', δ', b, δ1, ok', ec, fun H1 F1 st1 sm1 ok1 => ?_⟩
      have sA := st'.trans st1
      cases b with
      | true =>
        refine iteT ?_
        dsimp only at ev'
        refine ⟨fun σ2 H2 => ∃ m', m' < m + 1 ∧ ∃ F2 δ2, Step G F H F2 H2 ∧ Ok X.K G F2 σ2 H2 δ2 ∧ whileL (fun δ0 => evT cx t δ0) (fun δ0 => evSs cx body δ0) m' δ2 = some out, fun σ2 H2 z => z, ?_⟩
        cases hf : evSs cx body δ1 with
        | none => rw [hf] at ev'; cases ev'
        | some o1 =>
          rw [hf] at ev'
          refine ⟨G, F1, δ1, o1, ok1, hf, ?_⟩
          cases o1 with
          | nx δ3 => exact fun σ3 H4 F4 s4 k4 => ⟨m, by omega, F4, δ3, sA.trans s4, k4, ev'⟩
          | ct δ3 => exact fun σ3 H4 F4 s4 k4 => ⟨m, by omega, F4, δ3, sA.trans s4, k4, ev'⟩
          | bk δ3 =>
            cases ev'
            exact fun σ3 H4 F4 s4 k4 => post σ3 H4 F4 (sA.trans s4) k4
          | rt d3 δ3 =>
            cases ev'
            exact fun v σ3 H4 F4 s4 k4 r4 => post v σ3 H4 F4 (sA.trans s4) k4 r4
          | ro d3 δ3 =>
            cases ev'
            exact fun a xs σ3 H4 F4 s4 k4 => post a xs σ3 H4 F4 (sA.trans s4) k4
      | false =>
        refine iteF ?_
        cases ev'
        exact post σ' H1 F1 sA ok1
end
end PP
end
section
namespace PP
open PySem PySem.Spec PyProof.Rows
open Builtin.SmallTypes (nextOf)
section
variable {P : Program} {w : World} {A : Around} {E : Value → Shared → Prop} {s : Shared}
theorem nextT_item {i l : Addr} {k : Nat} {xs : List Value} {x : Value} {Q : Value → Shared → Prop} (hit : s.heap.IsTupleIter i l k) (ht : s.heap.IsTuple l xs.toArray) (hx : xs[k]? = some x) (q : ∀ h', h'.IsTupleIter i l (k + 1) → Heap.SameBut i s.heap h' → Q x { s with heap := h' }) : wpAny (model P w) A (nextOf (.ref i)) Q E s := by
  obtain ⟨o, ho, hc, hd⟩ := id hit
  obtain ⟨ol, hol, _, nl, hdl⟩ := ht
  have hx' : xs.toArray[k]? = some x := by simpa using hx
  unfold nextOf
  refine wpAny_bind (wpAny_callSpecial?_slot (name := Str.ofString "__next__") hit.typeIs PySem.F.slot_tuple_iterator_next (wpAny_call_entry PySem.F.slot_tuple_iterator_next hit.typeIs PySem.F.entry_tuple_iterator_next ?_ (PySem.F.args_tuple_iterator_next_1 _)))
  refine wpAny_bind (m := field (.ref i) 0) (wpAny_field ho hd (x := .ref l) rfl ?_)
  refine (if_neg (show ¬ ((Value.ref l == Value.none) = true) from Bool.false_ne_true)) ▸ ?_
  refine wpAny_bind (m := field (.ref i) 1) (wpAny_field ho hd (x := .int k 0) rfl ?_)
  refine wpAny_bind (m := seqItems? (.ref l)) (wpAny_seqItems hol hdl ?_)
  simp only [Int.toNat_natCast, hx']
  have sb := Heap.SameBut.update s.heap i (Obj.mapFields (·.setIfInBounds 1 (rawInt ((k : Int) + 1))))
  refine wpAny_bind (wpAny_setField ho hd (by simp) (wpAny_pure ⟨x, rfl, wpAny_pure (q _ ⟨_, Heap.get?_update_self _ ho (Obj.isFreed_of_fields (Obj.data_mapFields hd _)), (Obj.cls_mapFields ..).trans hc, ?_⟩ sb)⟩))
  rw [Obj.data_mapFields hd]
  simp [rawInt]
theorem nextT_end {i l : Addr} {k : Nat} {xs : List Value} {Q : Value → Shared → Prop} (hh : A.handled = none) (hit : s.heap.IsTupleIter i l k) (ht : s.heap.IsTuple l xs.toArray) (hx : xs[k]? = none)
    (q : ∀ h' e, Heap.ExtBut i s.heap h' → (∃ o, h'.get? e = some o ∧ o.cls = .type "StopIteration") → E (.ref e) { s with heap := h' }) : wpAny (model P w) A (nextOf (.ref i)) Q E s := by
  obtain ⟨o, ho, hc, hd⟩ := id hit
  obtain ⟨ol, hol, _, nl, hdl⟩ := ht
  have hx' : xs.toArray[k]? = none := by simpa using hx
  unfold nextOf
  refine wpAny_bind (wpAny_callSpecial?_slot (name := Str.ofString "__next__") hit.typeIs PySem.F.slot_tuple_iterator_next (wpAny_call_entry PySem.F.slot_tuple_iterator_next hit.typeIs PySem.F.entry_tuple_iterator_next ?_ (PySem.F.args_tuple_iterator_next_1 _)))
  refine wpAny_bind (m := field (.ref i) 0) (wpAny_field ho hd (x := .ref l) rfl ?_)
  refine (if_neg (show ¬ ((Value.ref l == Value.none) = true) from Bool.false_ne_true)) ▸ ?_
  refine wpAny_bind (m := field (.ref i) 1) (wpAny_field ho hd (x := .int k 0) rfl ?_)
  refine wpAny_bind (m := seqItems? (.ref l)) (wpAny_seqItems hol hdl ?_)
  simp only [Int.toNat_natCast, hx']
  refine wpAny_bind (wpAny_rule (wpAny_bind (wpAny_setField ho hd (by simp) (wpAny_bind (m := newExc (.type "StopIteration") []) ?_))))
  simp only [newExc, newTuple]
  refine wpAny_bind (wpAny_newObj_type ?_ (by size_fits))
  refine wpAny_bind (m := firstArgMember _ _) (wpAny_of_eq (a := Value.none) (by first | rfl | (simp only [firstArgMember]; rfl)) ?_)
  refine wpAny_newObj_type ?_ (by size_fits)
  simp only [raiseNew]
  refine wpAny_bind (wpAny_handled ?_)
  first | rw [show A.in1.handled = none from hh] | rw [hh]
  exact wpAny_bind (wpAny_pure (wpAny_throw (q _ _ (((Heap.SameBut.update ..).extBut.push _).push _) ⟨_, Heap.get?_push_size _ rfl, rfl⟩)))
end
end PP
end
section
namespace PP
open PySem PySem.Spec L2 PyProof.Rows
open Builtin.SmallTypes (nextOf)
noncomputable def SqM (m : Bool) (K : PySem.W.Frag) (H : Hp) (a : Addr) (xs : List V) : Prop := if m = true then SqL K H a xs else SqT K H a xs
noncomputable def OkM (m : Bool) (h : Heap) (a : Addr) (us : List Value) : Prop := if m = true then h.IsList a us.toArray else h.IsTuple a us.toArray
noncomputable def ItO (m : Bool) (h : Heap) (i l : Addr) (k : Nat) : Prop := if m = true then h.IsListIter i l k else h.IsTupleIter i l k
theorem ItO.at {m : Bool} {h h' : Heap} {i l : Addr} {k : Nat} (x : ItO m h i l k) (e : ∀ o, h.get? i = some o → h'.get? i = some o) : ItO m h' i l k := by
  cases m
  · exact Heap.IsTupleIter.at x e
  · exact Heap.IsListIter.at x e
theorem ItO.obj {m : Bool} {h : Heap} {i l : Addr} {k : Nat} (x : ItO m h i l k) : ∃ o, h.get? i = some o ∧ ∀ v, o.data ≠ .cell v := by
  cases m <;>
  · obtain ⟨o, e, _, d⟩ := x
    exact ⟨o, e, fun v z => by rw [d] at z; cases z⟩
section
variable {X : Cx} {pins : List (Addr × Obj)} {σ : L2.St} {H : Hp} {s : Shared} {A : Around} {E : Value → Shared → Prop}
theorem okM {m : Bool} {l : Addr} {ys : List V} (I : Inv X pins σ H s) (hq : SqM m X.K H l ys) : ∃ us, Vals ys us ∧ OkM m s.heap l us := by
  cases m
  · obtain ⟨us, r, p, _⟩ := I.tuple hq
    exact ⟨us, r, p⟩
  · obtain ⟨us, r, p, _⟩ := I.list hq
    exact ⟨us, r, p.isList⟩
theorem sqM_inj {m : Bool} {l : Addr} {xs ys : List V} (I : Inv X pins σ H s) (h1 : SqM m X.K H l xs) (h2 : SqM m X.K H l ys) : xs = ys := by
  cases m
  · exact I.tuple_inj h1 h2
  · exact I.list_inj h1 h2
theorem it_next {m : Bool} {i l : Addr} {k : Nat} {ys : List V} {x : V} {Q : Value → Shared → Prop} (I : Inv X pins σ H s) (hq : SqM m X.K H l ys) (hx : ys[k]? = some x) (it : ItO m s.heap i l k)
    (q : ∀ u h', RelV x u → ItO m h' i l (k + 1) → Heap.SameBut i s.heap h' → Q u { s with heap := h' }) : wpAny (model X.prog X.w) A (nextOf (.ref i)) Q E s := by
  obtain ⟨us, r, ok⟩ := okM I hq
  obtain ⟨u, hu, ru⟩ := r.get hx
  cases m
  · exact nextT_item it ok hu fun h' a b => q u h' ru a b
  · exact wpAny_nextOf_list_item it ok (by simpa using hu) fun h' a b => q u h' ru a b
theorem it_stop {m : Bool} {i l : Addr} {k : Nat} {ys : List V} {Q : Value → Shared → Prop} (hh : A.handled = none) (I : Inv X pins σ H s) (hq : SqM m X.K H l ys) (hx : ys.length ≤ k) (it : ItO m s.heap i l k)
    (q : ∀ h' e, Heap.ExtBut i s.heap h' → (∃ o, h'.get? e = some o ∧ o.cls = .type "StopIteration") → E (.ref e) { s with heap := h' }) : wpAny (model X.prog X.w) A (nextOf (.ref i)) Q E s := by
  obtain ⟨us, r, ok⟩ := okM I hq
  have hl : us[k]? = none := List.getElem?_eq_none (by rw [← r.length]; exact hx)
  cases m
  · exact nextT_end hh it ok hl q
  · exact wpAny_nextOf_list_end hh it ok (by simpa using hl) q
structure Zp (h : Heap) (m1 m2 : Bool) (z TI TO i1 i2 l1 l2 : Addr) (f0 : Value) (k1 k2 : Nat) : Prop where
  hz : IsZip h z TI TO f0
  ti : IsPair h TI (.ref i1) (.ref i2)
  to : ∃ a b, IsPair h TO a b
  i1 : ItO m1 h i1 l1 k1
  i2 : ItO m2 h i2 l2 k2
structure Ap (z TI TO i1 i2 : Addr) : Prop where
  a1 : TI ≠ z
  a2 : TO ≠ z
  a3 : i1 ≠ z
  a4 : i2 ≠ z
  a5 : TI ≠ TO
  a6 : TI ≠ i1
  a7 : TI ≠ i2
  a8 : TO ≠ i1
  a9 : TO ≠ i2
  a10 : i1 ≠ i2
theorem fp_turn {b : Addr} {h' : Heap} (I : Inv X pins σ H s) (f : FpOk X pins H b) (k : ∀ c o, c ≠ b → s.heap.get? c = some o → h'.get? c = some o) : Inv X pins σ H { s with heap := h' } := I.turned (t' := s.toks) k f.1 f.2.1 f.2.2.2.1 f.2.2.2.2.1 f.2.2.2.2.2
theorem zip_item {m1 m2 : Bool} {z TI TO i1 i2 l1 l2 : Addr} {k : Nat} {xs ys : List V} {x y : V} {Q : Value → Shared → Prop} (D : Ap z TI TO i1 i2) (I : Inv X pins σ H s) (hf : ∀ b ∈ [z, TI, TO, i1, i2], FpOk X pins H b) (Z : Zp s.heap m1 m2 z TI TO i1 i2 l1 l2 .none k k)
    (q1 : SqM m1 X.K H l1 xs) (q2 : SqM m2 X.K H l2 ys) (hx : xs[k]? = some x) (hy : ys[k]? = some y)
    (hQ : ∀ T h', H T = none → (∀ b ∈ [z, TI, TO, i1, i2], T ≠ b) → Inv X pins σ (upd H T (.tup [x, y])) { s with heap := h' } → Zp h' m1 m2 z TI TO i1 i2 l1 l2 (rawInt T) (k + 1) (k + 1) → Q (.ref T) { s with heap := h' }) :
    wpAny (model X.prog X.w) A (Builtin.«zip.__next__» ⟨[.ref z], []⟩) (fun fin s' => ∃ v, fin = .done (.ret v) ∧ Q v s') E s := by
  obtain ⟨hz, ti, ⟨a, b, to⟩, h1, h2⟩ := Z
  have fz := hf z (by simp)
  have fT := hf TO (by simp)
  have f1 := hf i1 (by simp)
  have f2 := hf i2 (by simp)
  refine wpAny_bind (m := field (.ref z) 2) (wpAny_field hz rfl (x := .bool false) rfl ?_)
  refine wpAny_bind (m := field (.ref z) 3) (wpAny_field hz rfl (x := .ref TI) rfl ?_)
  refine wpAny_bind (wpAny_seqItems ti rfl ?_)
  refine wpAny_bind (m := Builtin.SmallTypes.ownedTupleIsFree (.ref z)) ?_
  unfold Builtin.SmallTypes.ownedTupleIsFree
  refine wpAny_bind (wpAny_field hz rfl (x := .none) rfl (wpAny_pure ?_))
  simp only [if_true]
  refine wpAny_bind (wpAny_rule (wpAny_bind (wpAny_field hz rfl (x := .ref TO) rfl (wpAny_bind (wpAny_setField_rec hz (by simp) fun g1 y1 s1 => wpAny_bind ?_)))))
  replace y1 : IsZip g1 z TI TO .ellipsis := y1
  have I1 := fp_turn I fz fun c o n e => s1.extBut c o n e
  simp only [List.zipIdx_cons, List.zipIdx_nil, List.forIn_cons, List.forIn_nil]
  refine wpAny_bind (wpAny_bind (wpAny_onRaise (wpAny_bind (m := nextOf (.ref i1)) (it_next I1 q1 hx (h1.at fun o e => s1.extBut _ o D.a3 e) fun u g2 ru j1 s2 => wpAny_pure ?_))))
  have I2 := fp_turn I1 f1 fun c o n e => s2.extBut c o n e
  have to2 : IsPair g2 TO a b := s2.extBut _ _ D.a8 (s1.extBut _ _ D.a2 to)
  refine wpAny_bind (wpAny_seqItems to2 rfl (wpAny_bind (wpAny_updateSeq_pair to2 fun g3 to3 s3 => wpAny_bind (wpAny_letGo (wpAny_pure ?_)))))
  replace to3 : IsPair g3 TO u b := to3
  have I3 := fp_turn I2 fT fun c o n e => s3.extBut c o n e
  refine wpAny_bind (wpAny_bind (wpAny_onRaise (wpAny_bind (m := nextOf (.ref i2)) (it_next I3 q2 hy (((h2.at fun o e => s1.extBut _ o D.a4 e).at fun o e => s2.extBut _ o D.a10.symm e).at fun o e => s3.extBut _ o D.a9.symm e) fun v g4 rv j2 s4 => wpAny_pure ?_))))
  have I4 := fp_turn I3 f2 fun c o n e => s4.extBut c o n e
  have to4 : IsPair g4 TO u b := s4.extBut _ _ D.a9 to3
  refine wpAny_bind (wpAny_seqItems to4 rfl (wpAny_bind (wpAny_updateSeq_pair to4 fun g5 to5 s5 => wpAny_bind (wpAny_letGo (wpAny_pure (wpAny_pure ?_))))))
  replace to5 : IsPair g5 TO u v := to5
  have I5 := fp_turn I4 fT fun c o n e => s5.extBut c o n e
  refine wpAny_bind (wpAny_seqItems to5 rfl (wpAny_bind (wpAny_newTuple ?_)))
  have hT : H g5.objs.size = none := I5.hok.fresh (Nat.le_refl _)
  have z5 : IsZip g5 z TI TO .ellipsis := s5.extBut _ _ D.a2.symm (s4.extBut _ _ D.a4.symm (s3.extBut _ _ D.a2.symm (s2.extBut _ _ D.a3.symm y1)))
  have ti5 : IsPair g5 TI (.ref i1) (.ref i2) := s5.extBut _ _ D.a5 (s4.extBut _ _ D.a7 (s3.extBut _ _ D.a5 (s2.extBut _ _ D.a6 (s1.extBut _ _ D.a1 ti))))
  have k1 : ItO m1 g5 i1 l1 (k + 1) := ((j1.at fun o e => s3.extBut _ o D.a8.symm e).at fun o e => s4.extBut _ o D.a10 e).at fun o e => s5.extBut _ o D.a8.symm e
  have k2 : ItO m2 g5 i2 l2 (k + 1) := j2.at fun o e => s5.extBut _ o D.a9.symm e
  have Tz : g5.objs.size ≠ z := Nat.ne_of_gt (Heap.lt_size z5)
  have Ts : ∀ b ∈ [z, TI, TO, i1, i2], g5.objs.size ≠ b := fun b hb => by
    obtain ⟨_, e1, _⟩ := k1.obj
    obtain ⟨_, e2, _⟩ := k2.obj
    simp only [List.mem_cons, List.not_mem_nil, or_false] at hb
    rcases hb with rfl | rfl | rfl | rfl | rfl
    · exact Tz
    · exact Nat.ne_of_gt (Heap.lt_size ti5)
    · exact Nat.ne_of_gt (Heap.lt_size to5)
    · exact Nat.ne_of_gt (Heap.lt_size e1)
    · exact Nat.ne_of_gt (Heap.lt_size e2)
  have I6 : Inv X pins σ (upd H g5.objs.size (.tup [x, y])) { s with heap := g5.push { cls := .type "tuple", data := .seq #[u, v] } } :=
    I5.laid (t' := s.toks) (fun b u e => Heap.get?_push_of_some _ e) (Nat.le_refl _) ⟨by show 2 ≤ sizeLine; decide, [u, v], .cons ru (.cons rv .nil), ⟨_, Heap.get?_push_size _ rfl, rfl, _, rfl⟩⟩
  have fz6 : FpOk X pins (upd H g5.objs.size (.tup [x, y])) z := ⟨by rw [upd_ne Tz.symm]; exact fz.1, fz.2⟩
  refine wpAny_bind (m := Builtin.SmallTypes.ownedTupleHandOut (.ref z) (.ref g5.objs.size)) ?_
  unfold Builtin.SmallTypes.ownedTupleHandOut
  have z6 : IsZip (g5.push { cls := .type "tuple", data := .seq #[u, v] }) z TI TO .ellipsis := Heap.get?_push_of_some _ z5
  refine wpAny_bind (wpAny_setField_rec z6 (by simp) fun g7 z7 s7 => ?_)
  replace z7 : IsZip g7 z TI TO (rawInt g5.objs.size) := z7
  refine wpAny_setField_rec z7 (by simp) fun g8 z8 s8 => ?_
  replace z8 : IsZip g8 z TI TO (rawInt g5.objs.size) := z8
  have up : ∀ c o, c ≠ z → g5.get? c = some o → g8.get? c = some o := fun c o n e => s8.extBut _ _ n (s7.extBut _ _ n (Heap.get?_push_of_some _ e))
  have I8 := fp_turn (fp_turn I6 fz6 fun c o n e => s7.extBut c o n e) fz6 fun c o n e => s8.extBut c o n e
  exact wpAny_pure ⟨_, rfl, hQ g5.objs.size g8 hT Ts I8 ⟨z8, up _ _ D.a1 ti5, ⟨_, _, up _ _ D.a2 to5⟩, k1.at fun o e => up _ o D.a3 e, k2.at fun o e => up _ o D.a4 e⟩⟩
theorem zip_stop {m1 m2 : Bool} {z TI TO i1 i2 l1 l2 : Addr} {k : Nat} {xs ys : List V} {Q : PySem.Fin → Shared → Prop} (hh : A.handled = none) (D : Ap z TI TO i1 i2) (I : Inv X pins σ H s) (hf : ∀ b ∈ [z, TI, TO, i1, i2], FpOk X pins H b) (Z : Zp s.heap m1 m2 z TI TO i1 i2 l1 l2 .none k k)
    (q1 : SqM m1 X.K H l1 xs) (q2 : SqM m2 X.K H l2 ys) (hend : xs.length ≤ k ∨ ys.length ≤ k)
    (hE : ∀ h' e, Inv X pins σ H { s with heap := h' } → (∃ o, h'.get? e = some o ∧ o.cls = .type "StopIteration") → E (.ref e) { s with heap := h' }) :
    wpAny (model X.prog X.w) A (Builtin.«zip.__next__» ⟨[.ref z], []⟩) Q E s := by
  obtain ⟨hz, ti, ⟨a, b, to⟩, h1, h2⟩ := Z
  have fz := hf z (by simp)
  have fT := hf TO (by simp)
  have f1 := hf i1 (by simp)
  have f2 := hf i2 (by simp)
  refine wpAny_bind (m := field (.ref z) 2) (wpAny_field hz rfl (x := .bool false) rfl ?_)
  refine wpAny_bind (m := field (.ref z) 3) (wpAny_field hz rfl (x := .ref TI) rfl ?_)
  refine wpAny_bind (wpAny_seqItems ti rfl ?_)
  refine wpAny_bind (m := Builtin.SmallTypes.ownedTupleIsFree (.ref z)) ?_
  unfold Builtin.SmallTypes.ownedTupleIsFree
  refine wpAny_bind (wpAny_field hz rfl (x := .none) rfl (wpAny_pure ?_))
  simp only [if_true]
  refine wpAny_bind (wpAny_rule (wpAny_bind (wpAny_field hz rfl (x := .ref TO) rfl (wpAny_bind (wpAny_setField_rec hz (by simp) fun g1 y1 s1 => wpAny_bind ?_)))))
  replace y1 : IsZip g1 z TI TO .ellipsis := y1
  have I1 := fp_turn I fz fun c o n e => s1.extBut c o n e
  simp only [List.zipIdx_cons, List.zipIdx_nil, List.forIn_cons, List.forIn_nil]
  have j1 : ItO m1 g1 i1 l1 k := h1.at fun o e => s1.extBut _ o D.a3 e
  have last : ∀ {g : Heap} {e : Addr} (Ig : Inv X pins σ H { s with heap := g }) (zg : IsZip g z TI TO .ellipsis) (he : ∃ o, g.get? e = some o ∧ o.cls = .type "StopIteration"),
      wpAny (model X.prog X.w) A (setField (.ref z) 0 .none) (fun _ s' => E (.ref e) s') E { s with heap := g } := fun {g e} Ig zg he => by
    obtain ⟨o, ho, hc⟩ := he
    have ez : e ≠ z := fun x => by subst x; rw [zg] at ho; cases ho; simp at hc
    refine wpAny_setField_rec zg (by simp) fun g' _ s' => ?_
    have I' := fp_turn (h' := g') Ig fz fun c o n e => s'.extBut c o n e
    exact hE g' e I' ⟨o, s'.extBut _ _ ez ho, hc⟩
  refine wpAny_bind (wpAny_bind (wpAny_onRaise (wpAny_bind (m := nextOf (.ref i1)) ?_)))
  by_cases hx : xs.length ≤ k
  · refine it_stop hh I1 q1 hx j1 fun g2 e x2 he => ?_
    have I2 := fp_turn (h' := g2) I1 f1 fun c o n e => x2 c o n e
    exact last I2 (x2 _ _ D.a3.symm y1) he
  · obtain ⟨x, ex⟩ : ∃ x, xs[k]? = some x := ⟨xs[k], List.getElem?_eq_getElem (by omega)⟩
    refine it_next I1 q1 ex j1 fun u g2 ru j1' s2 => wpAny_pure ?_
    have I2 := fp_turn I1 f1 fun c o n e => s2.extBut c o n e
    have to2 : IsPair g2 TO a b := s2.extBut _ _ D.a8 (s1.extBut _ _ D.a2 to)
    refine wpAny_bind (wpAny_seqItems to2 rfl (wpAny_bind (wpAny_updateSeq_pair to2 fun g3 to3 s3 => wpAny_bind (wpAny_letGo (wpAny_pure ?_)))))
    have I3 := fp_turn I2 fT fun c o n e => s3.extBut c o n e
    refine wpAny_bind (wpAny_bind (wpAny_onRaise (wpAny_bind (m := nextOf (.ref i2)) ?_)))
    refine it_stop hh I3 q2 (by omega) (((h2.at fun o e => s1.extBut _ o D.a4 e).at fun o e => s2.extBut _ o D.a10.symm e).at fun o e => s3.extBut _ o D.a9.symm e) fun g4 e x4 he => ?_
    have I4 := fp_turn (h' := g4) I3 f2 fun c o n e => x4 c o n e
    exact last I4 (x4 _ _ D.a4.symm (s3.extBut _ _ D.a2.symm (s2.extBut _ _ D.a3.symm y1))) he
end
end PP
end
section
namespace PP
open PySem PySem.Spec L2 PyProof.Rows
noncomputable def Itz (K : PySem.W.Frag) (m1 m2 : Bool) (l1 l2 : Addr) : L2.It :=
  ⟨fun i H => ∃ xs ys x y, SqM m1 K H l1 xs ∧ SqM m2 K H l2 ys ∧ xs[i]? = some x ∧ ys[i]? = some y,
    fun i H v H' => ∃ T x y, v = .ref T ∧ H T = none ∧ H' = upd H T (.tup [x, y]) ∧ (∀ xs, SqM m1 K H l1 xs → xs[i]? = some x) ∧ ∀ ys, SqM m2 K H l2 ys → ys[i]? = some y,
    fun i H => ∃ xs ys, SqM m1 K H l1 xs ∧ SqM m2 K H l2 ys ∧ (xs.length ≤ i ∨ ys.length ≤ i)⟩
theorem turn_zip {P : Program} {w : World} {K : PySem.W.Frag} {elts : List Expr} {k0 : Nat} {pos : Pos} {m1 m2 : Bool} {z TI TO i1 i2 l1 l2 : Addr} (D : Ap z TI TO i1 i2) :
    Turn P w K (.Tuple elts k0 pos) (Itz K m1 m2 l1 l2) [z, TI, TO, i1, i2] z (fun i h => Zp h m1 m2 z TI TO i1 i2 l1 l2 .none i i) where
  mem := by simp
  obj := fun i h st b hb => by
    obtain ⟨hz, ti, ⟨a, c, to⟩, h1, h2⟩ := st
    simp only [List.mem_cons, List.not_mem_nil, or_false] at hb
    rcases hb with rfl | rfl | rfl | rfl | rfl
    · exact ⟨_, hz, fun v z => by cases z⟩
    · exact ⟨_, ti, fun v z => by cases z⟩
    · exact ⟨_, to, fun v z => by cases z⟩
    · exact h1.obj
    · exact h2.obj
  keep := fun i h h' st k => by
    obtain ⟨hz, ti, ⟨a, c, to⟩, h1, h2⟩ := st
    exact ⟨k z (by simp) _ hz, k TI (by simp) _ ti, ⟨a, c, k TO (by simp) _ to⟩, h1.at fun o e => k _ (by simp) o e, h2.at fun o e => k _ (by simp) o e⟩
  item := by
    intro X hP hw hK hc i pins s σ H E I hf st hg
    subst hP hw hK
    obtain ⟨xs, ys, x, y, q1, q2, hx, hy⟩ := hg
    have hT : s.TypeIs (.ref z) "zip" := ⟨_, st.hz, rfl⟩
    unfold pyNext
    refine wpAny_bind (wpAny_attempt (wpAny_callSpecial?_slot (name := Str.ofString "__next__") hT PySem.F.slot_zip_next (wpAny_call_entry PySem.F.slot_zip_next hT PySem.F.entry_zip_next (zip_item D I hf st q1 q2 hx hy fun T h' nT nb I' Z' => wpAny_pure ⟨.ref T, rfl, ?_⟩) (PySem.F.args_zip_next_1 _))))
    refine wpAny_letOwnedTupleGo_zip Z'.hz fun h2 z2 s2 => ?_
    have hn : ∀ b ∈ [z, TI, TO, i1, i2], upd H T (.tup [x, y]) b = none := fun b hb => by rw [upd_ne (nb b hb).symm]; exact (hf b hb).1
    have I2 := fp_turn (h' := h2) I' ⟨hn z (by simp), (hf z (by simp)).2⟩ fun c o n e => s2.extBut c o n e
    obtain ⟨_, ti, ⟨a, c, to⟩, h1, h2'⟩ := Z'
    exact ⟨.ref T, upd H T (.tup [x, y]), I2, rfl, ⟨T, x, y, rfl, nT, rfl, fun xs' h => by rw [sqM_inj I h q1]; exact hx, fun ys' h => by rw [sqM_inj I h q2]; exact hy⟩,
      ⟨z2, s2.extBut _ _ D.a1 ti, ⟨a, c, s2.extBut _ _ D.a2 to⟩, h1.at fun o e => s2.extBut _ o D.a3 e, h2'.at fun o e => s2.extBut _ o D.a4 e⟩, hn⟩
  done := by
    intro X hP hw hK hc i pins s σ H E I hf st hg
    subst hP hw hK
    obtain ⟨xs, ys, q1, q2, he⟩ := hg
    have hT : s.TypeIs (.ref z) "zip" := ⟨_, st.hz, rfl⟩
    unfold pyNext
    refine wpAny_bind (wpAny_attempt (wpAny_callSpecial?_slot (name := Str.ofString "__next__") hT PySem.F.slot_zip_next (wpAny_call_entry PySem.F.slot_zip_next hT PySem.F.entry_zip_next (zip_stop (I.ok.hd hc) D I hf st q1 q2 he fun h' e I' he => ?_) (PySem.F.args_zip_next_1 _))))
    obtain ⟨o, ho, hc⟩ := he
    exact wpAny_bind (wpAny_isInstance (T := "StopIteration") (b := true) ⟨o, ho, hc⟩ isSubtype_stop (wpAny_pure ⟨rfl, I'⟩))
  self := fun _ _ _ _ _ st h => wpAny_pyIter_zip st.hz h
noncomputable def itN (m : Bool) : String := if m = true then "list_iterator" else "tuple_iterator"
noncomputable def itObj (m : Bool) (l : Addr) : Obj := { cls := .type (itN m), data := .fields #[.ref l, .int 0 0] }
theorem iterM {prog : Program} {w : World} {A : Around} {E : Value → Shared → Prop} {s : Shared} {m : Bool} {l : Addr} {us : List Value} {Q : Value → Shared → Prop} (ok : OkM m s.heap l us) (h : Q (.ref s.heap.objs.size) { s with heap := s.heap.push (itObj m l) }) : wpAny (model prog w) A (pyIter (.ref l)) Q E s := by
  cases m
  · exact wpAny_pyIter_tuple (show s.heap.IsTuple l us.toArray from ok) h
  · exact wpAny_pyIter_list (show s.heap.IsList l us.toArray from ok) h
theorem OkM.push {m : Bool} {h : Heap} {l : Addr} {us : List Value} (ok : OkM m h l us) (o : Obj) : OkM m (h.push o) l us := by
  cases m
  · exact Heap.IsTuple.at (show h.IsTuple l us.toArray from ok) fun o e => Heap.get?_push_of_some _ e
  · exact Heap.IsList.push ok o
noncomputable def zH (h : Heap) (m1 m2 : Bool) (l1 l2 : Addr) : Heap := ((((h.push (itObj m1 l1)).push (itObj m2 l2)).push { cls := .type "tuple", data := .seq #[.ref h.objs.size, .ref (h.objs.size + 1)] }).push { cls := .type "tuple", data := .seq #[.none, .none] }).push { cls := .type "zip", data := .fields #[.none, .bool false, .bool false, .ref (h.objs.size + 2), .ref (h.objs.size + 3)] }
theorem meets_zip {m1 m2 : Bool} (l1 l2 : Addr) (us vs : List Value) : Meets (Builtin.«zip.__new__» ⟨[.type "zip", .ref l1, .ref l2], []⟩) (fun _ R s => OkM m1 s.heap l1 us ∧ OkM m2 s.heap l2 vs ∧ R (.ok (.ret (.ref (s.heap.objs.size + 4)))) { s with heap := zH s.heap m1 m2 l1 l2 }) :=
  .of_wp fun prog w A R s h => by
    obtain ⟨hp, g, d, tk, os⟩ := s
    obtain ⟨o1, o2, h⟩ := h
    have hsub := sub_zip
    have L1 : OkM m1 (Shared.heap ⟨hp, g, d, tk, os⟩) l1 us := o1
    have L2 : OkM m2 (Shared.heap ⟨hp.push (itObj m1 l1), g, d, tk, os⟩) l2 vs := OkM.push o2 _
    wp_walk using iterM L1, iterM L2
    refine ⟨_, rfl, ?_⟩
    unfold zH at h
    simp only [Heap.size_push]
    exact h
section
variable {prog : Program} {w : World} {A : Around} {E : Value → Shared → Prop} {s : Shared}
theorem call_zipM {m1 m2 : Bool} {l1 l2 : Addr} {us vs : List Value} {Q : Value → Shared → Prop} (o1 : OkM m1 s.heap l1 us) (o2 : OkM m2 s.heap l2 vs)
    (h : ∀ h', Zp h' m1 m2 (s.heap.objs.size + 4) (s.heap.objs.size + 2) (s.heap.objs.size + 3) s.heap.objs.size (s.heap.objs.size + 1) l1 l2 .none 0 0 → (∀ c o, s.heap.get? c = some o → h'.get? c = some o) → Q (.ref (s.heap.objs.size + 4)) { s with heap := h' }) :
    wpAny (model prog w) A (call (.type "zip") [.ref l1, .ref l2]) Q E s := by
  refine callType_new PySem.F.called_zip (by decide) (PySem.F.typeCall_zip_2 _ _) (PySem.F.newCall_zip_2 _ _) (fun obj => PySem.F.args_object_init_3 obj _ _) PySem.F.entry_zip_new (meets_zip (m1 := m1) (m2 := m2) l1 l2 us vs) ⟨o1, o2, ?_⟩
  have up : ∀ {h : Heap} {c : Addr} {o o' : Obj}, h.get? c = some o → (h.push o').get? c = some o := fun e => Heap.get?_push_of_some _ e
  have at_ : ∀ {h : Heap} {o : Obj} {n : Addr}, h.objs.size = n → o.isFreed = false → (h.push o).get? n = some o := fun e f => by rw [← e]; exact Heap.get?_push_size _ f
  have z1 : (s.heap.push (itObj m1 l1)).objs.size = s.heap.objs.size + 1 := Heap.size_push ..
  have z2 : ((s.heap.push (itObj m1 l1)).push (itObj m2 l2)).objs.size = s.heap.objs.size + 2 := by rw [Heap.size_push, z1]
  have z3 : (((s.heap.push (itObj m1 l1)).push (itObj m2 l2)).push { cls := .type "tuple", data := .seq #[.ref s.heap.objs.size, .ref (s.heap.objs.size + 1)] }).objs.size = s.heap.objs.size + 3 := by rw [Heap.size_push, z2]
  have z4 : ((((s.heap.push (itObj m1 l1)).push (itObj m2 l2)).push { cls := .type "tuple", data := .seq #[.ref s.heap.objs.size, .ref (s.heap.objs.size + 1)] }).push { cls := .type "tuple", data := .seq #[.none, .none] }).objs.size = s.heap.objs.size + 4 := by rw [Heap.size_push, z3]
  have g5 : (zH s.heap m1 m2 l1 l2).get? (s.heap.objs.size + 4) = some _ := at_ z4 rfl
  have g4 : (zH s.heap m1 m2 l1 l2).get? (s.heap.objs.size + 3) = some _ := up (at_ z3 rfl)
  have g3 : (zH s.heap m1 m2 l1 l2).get? (s.heap.objs.size + 2) = some _ := up (up (at_ z2 rfl))
  have g2 : (zH s.heap m1 m2 l1 l2).get? (s.heap.objs.size + 1) = some (itObj m2 l2) := up (up (up (at_ z1 rfl)))
  have g1 : (zH s.heap m1 m2 l1 l2).get? s.heap.objs.size = some (itObj m1 l1) := up (up (up (up (at_ rfl rfl))))
  have it : ∀ {m : Bool} {i l : Addr} {h : Heap}, h.get? i = some (itObj m l) → ItO m h i l 0 := fun {m i l h} e => by cases m <;> exact ⟨_, e, rfl, rfl⟩
  exact ⟨⟨_, g5, rfl⟩, h _ ⟨g5, g3, ⟨_, _, g4⟩, it g1, it g2⟩ fun c o e => up (up (up (up (up e))))⟩
end
theorem ne_nat {a b : Nat} (h : a ≠ b) : (show Addr from a) ≠ (show Addr from b) := h
noncomputable def iZip (K : PySem.W.Frag) (ta : TA) : TI := fun σ H R => ta σ H fun vs H1 => ∃ m1 m2 l1 l2 xs ys, vs = [.ref l1, .ref l2] ∧ SqM m1 K H1 l1 xs ∧ SqM m2 K H1 l2 ys ∧ R (Itz K m1 m2 l1 l2) H1
theorem pi_zip {X : Cx} {elts : List Expr} {k0 : Nat} {tp : Pos} {a b : Expr} {ta : TA} {p pos : Pos} (hg : Gl X "zip") (hm : X.mg "zip" = none) (ha : PA X [a, b] ta) (hs : starEach [a, b] X.env = (false, eval a X.env) :: starEach [b] X.env) (hpl : (backTo pos (starEach [b] X.env)).any (·.1) = false) :
    PI X (.Tuple elts k0 tp) (.Call (.Name "zip" p) [a, b] [] pos) (iZip X.K ta) := by
  intro pins s σ H R I h
  refine Call_ (ld_blt I hg hm boot_zip (PyProof.Rows.callWith_type1 (thn (ha pos pins s σ H _ I h) fun us s1 ⟨vs, H1, I1, r1, q1⟩ => ?_) hs hpl))
  obtain ⟨m1, m2, l1, l2, xs, ys, rfl, s1', s2', q⟩ := q1
  obtain ⟨u, rr, e, r, rr1⟩ : ∃ u rr, us = u :: rr ∧ RelV (.ref l1) u ∧ Vals [.ref l2] rr := by cases r1 with | cons r rr => exact ⟨_, _, rfl, r, rr⟩
  obtain ⟨v, rfl, r2⟩ := vals1 rr1
  subst e
  cases r
  cases r2
  obtain ⟨us1, _, o1⟩ := okM I1 s1'
  obtain ⟨us2, _, o2⟩ := okM I1 s2'
  refine call_zipM o1 o2 fun h' Z k => ?_
  refine wpAny_pyIter_zip Z.hz ?_
  have D : Ap (s1.heap.objs.size + 4) (s1.heap.objs.size + 2) (s1.heap.objs.size + 3) s1.heap.objs.size (s1.heap.objs.size + 1) := by
    constructor <;> (refine ne_nat ?_; omega)
  refine ⟨_, _, _, _, H1, rfl, I1.kept (t' := s1.toks) k, turn_zip D, Z, fun b hb => ?_, q⟩
  have hle : s1.heap.objs.size ≤ b := by
    simp only [List.mem_cons, List.not_mem_nil, or_false] at hb
    rcases hb with rfl | rfl | rfl | rfl | rfl <;> omega
  exact I1.fpOk hle (I1.hok.fresh hle)
end PP
end
section
namespace PP
open PySem L2 PyProof.Rows
variable [Tbs]
section
variable {X : Cx} {c : Ck} {cx : Cl} {k : Nat}
noncomputable def kM : D → Bool
  | .lst _ => true
  | _ => false
theorem seq_rel {K : PySem.W.Frag} {H : Hp} {F : Addr → Prop} {d : D} {ds : List D} {v : V} (e : seqD d = some ds) (r : Rel K H F d v) : ∃ a us, v = .ref a ∧ SqM (kM d) K H a us ∧ RelL K H F ds us := by
  cases d with
  | lst l =>
    cases e
    obtain ⟨a, us, e1, h1, h2⟩ := RelB.lst (.inl r)
    exact ⟨a, us, e1, h1.sq, h2⟩
  | tup l =>
    cases e
    obtain ⟨a, us, e1, h1, h2⟩ := RelB.tup (.inl r)
    exact ⟨a, us, e1, h1, h2⟩
  | _ => cases e
theorem sndS_forZ (C : Cok X c cx k) {tg : Tg} {es : Es} {body : Ss} {t a b : Expr} {ys : List Stmt} {p cp pos : Pos} (ht : isTp t = true) (htg : ckTg c tg t = true) (hg : Gl X "zip") (hm : X.mg "zip" = none) (hA : PA X [a, b] (tEs X.K cx es)) (hc : ckEs c es [a, b] = true) (n : noPk es = true) (hb : PSs X ys (tS X.K (evSs cx body))) :
    PS X (.For t (.Call (.Name "zip" p) [a, b] [] cp) ys [] pos) (tS X.K (evS cx (.forZ tg es body))) := by
  have hp : PassesOwn (model X.prog X.w) X.A X.env X.xe := by rw [C.xe]; exact PassesOwn.never
  have tt : ∃ es n q, t = .Tuple es n q := by
    rcases tg_shape htg with ⟨_, _, rfl⟩ | h
    · cases ht
    · exact h
  obtain ⟨elts, k0, tp, rfl⟩ := tt
  obtain ⟨_, _, _, c1, c2⟩ := ckEs_cons hc
  refine PS.imp (ps_for hp C.calm (pi_zip hg hm hA (head_star (ck_head c1) _ _) (star_any c2)) (snd_tg C htg) hb (fun v => rfl)) fun E σ H ⟨G, F, δ, out, ok, ev, post⟩ => ?_
  simp only [evS, Option.bind_eq_bind, Option.bind_eq_some_iff] at ev
  obtain ⟨⟨ds, δ1⟩, e1, ev⟩ := ev
  dsimp only at ev
  split at ev
  · rename_i x y
    split at ev
    · rename_i xs ys' ex ey
      generalize ef : (fun (x : D) (δ0 : Loc) => match setTg δ0 tg x with | some δ2 => evSs cx body δ2 | none => none) = f at ev
      refine ⟨G, F, δ, [x, y], δ1, ok, e1, fun vs H1 F1 st sm ok1 r1 => ?_⟩
      have r := r1.rl n
      unfold RelL at r
      obtain ⟨v1, _, rfl, q1, r⟩ := r
      unfold RelL at r
      obtain ⟨v2, _, rfl, q2, r⟩ := r
      unfold RelL at r
      subst r
      obtain ⟨l1, us1, rfl, s1, _⟩ := seq_rel ex q1
      obtain ⟨l2, us2, rfl, s2, _⟩ := seq_rel ey q2
      refine ⟨kM x, kM y, l1, l2, us1, us2, rfl, s1, s2, ?_⟩
      have zl : (zipD xs ys').length = min xs.length ys'.length := by unfold zipD; rw [List.length_map, List.length_zip]
      refine ⟨fun i m σ' H' => ∃ F' δ', m = (zipD xs ys').length - i ∧ i ≤ (zipD xs ys').length ∧ Step G F1 H1 F' H' ∧ Ok X.K G F' σ' H' δ' ∧ forL f ((zipD xs ys').drop i) δ' = some out, ⟨_, F1, δ1, rfl, Nat.zero_le _, Step.refl, ok1, ev⟩, ?_⟩
      rintro i m σ' H' ⟨F', δ', rfl, hi, st', ok', ev'⟩
      obtain ⟨_, w1, ea, t1, rl1⟩ := seq_rel ex (Rel.step ok1.fd st' _ _ q1)
      cases ea
      obtain ⟨_, w2, ea, t2, rl2⟩ := seq_rel ey (Rel.step ok1.fd st' _ _ q2)
      cases ea
      have ll1 := rl1.length
      have ll2 := rl2.length
      by_cases hlt : i < (zipD xs ys').length
      · right
        have h1 : i < xs.length := by omega
        have h2 : i < ys'.length := by omega
        obtain ⟨a1, ha1, ra1⟩ := rl1.get (List.getElem?_eq_getElem h1)
        obtain ⟨a2, ha2, ra2⟩ := rl2.get (List.getElem?_eq_getElem h2)
        have edr : (zipD xs ys').drop i = .tup [xs[i], ys'[i]] :: (zipD xs ys').drop (i + 1) := by
          have e0 : (zipD xs ys')[i]? = some (.tup [xs[i], ys'[i]]) := by
            unfold zipD
            rw [List.getElem?_map, (List.getElem?_zip_eq_some (z := (xs[i], ys'[i]))).mpr ⟨List.getElem?_eq_getElem h1, List.getElem?_eq_getElem h2⟩]
            rfl
          rw [List.drop_eq_getElem_cons hlt]
          congr 1
          rw [List.getElem?_eq_getElem hlt] at e0
          exact Option.some.inj e0
        rw [edr] at ev'
        unfold forL at ev'
        refine ⟨⟨w1, w2, a1, a2, t1, t2, ha1, ha2⟩, fun σ2 H2 => ∃ m', m' < (zipD xs ys').length - i ∧ ∃ F2 δ2, m' = (zipD xs ys').length - (i + 1) ∧ i + 1 ≤ (zipD xs ys').length ∧ Step G F1 H1 F2 H2 ∧ Ok X.K G F2 σ2 H2 δ2 ∧ forL f ((zipD xs ys').drop (i + 1)) δ2 = some out, fun σ2 H2 z => z, fun v H3 hy => ?_⟩
        obtain ⟨T, b1, b2, rfl, nT, rfl, y1, y2⟩ := hy
        have eb1 : b1 = a1 := Option.some.inj ((y1 _ t1).symm.trans ha1)
        have eb2 : b2 = a2 := Option.some.inj ((y2 _ t2).symm.trans ha2)
        subst eb1 eb2
        have rx := rel_newTup ok' nT (RelL.cons ra1 (RelL.cons ra2 RelL.nil))
        have sn := same_new nT (.tup [b1, b2])
        have ok3 := ok'.same' sn
        have st3 := st'.trans (Step.of_same sn)
        cases hf : f (.tup [xs[i], ys'[i]]) δ' with
        | none => rw [hf] at ev'; cases ev'
        | some o1 =>
          have hf' := hf
          rw [← ef] at hf'
          dsimp only at hf'
          cases hs : setTg δ' tg (.tup [xs[i], ys'[i]]) with
          | none => rw [hs] at hf'; cases hf'
          | some δ2 =>
            rw [hs] at hf'
            refine tg_read ok3 rx hs fun σ2 ok2 _ => ⟨G, F', δ2, o1, ok2, hf', ?_⟩
            rw [hf] at ev'
            cases o1 with
            | nx δ3 => exact fun σ3 H4 F4 s4 k4 => ⟨_, by omega, F4, δ3, rfl, hlt, st3.trans s4, k4, ev'⟩
            | ct δ3 => exact fun σ3 H4 F4 s4 k4 => ⟨_, by omega, F4, δ3, rfl, hlt, st3.trans s4, k4, ev'⟩
            | bk δ3 =>
              cases ev'
              exact fun σ3 H4 F4 s4 k4 => post σ3 H4 F4 ((st.trans st3).trans s4) k4
            | rt d3 δ3 =>
              cases ev'
              exact fun v σ3 H4 F4 s4 k4 r4 => post v σ3 H4 F4 ((st.trans st3).trans s4) k4 r4
            | ro d3 δ3 =>
              cases ev'
              exact fun a xs σ3 H4 F4 s4 k4 => post a xs σ3 H4 F4 ((st.trans st3).trans s4) k4
      · left
        have hi' : i = (zipD xs ys').length := by omega
        refine ⟨⟨w1, w2, t1, t2, by omega⟩, ?_⟩
        rw [hi', List.drop_length] at ev'
        cases ev'
        exact post σ' H' F' (st.trans st') ok'
    · cases ev
  · cases ev
end
end PP
end
section
namespace PP
open PySem L2 PyProof.Rows
variable [Tbs]
section
variable {X : Cx} {c : Ck} {cx : Cl} {k : Nat}
theorem few1 {c : Ck} {e : E} {z : Expr} {env : Env} {cp : Pos} (h : ckE c e z = true) : ((backTo cp (starEach [z] env)).all (fun x => !x.1) && (backToKw cp (keywordEach [] env)).all (fun x => x.1.isSome)
      && decide (([z] : List Expr).length + ([] : List Keyword).length + (if ([] : List Keyword).isEmpty then 0 else 1) < 30)) = true := by
  rw [head_star (ck_head h)]
  rfl
theorem sndS_append {i : Nat} {e : E} {x : Str} {z : Expr} {p1 p2 ap cp : Pos} (C : Cok X c cx k) (hx : nameIs c i x = true) (hl : ap.endLine = cp.line) (hz : ckE c e z = true) (n : (!isPk e) = true) (he : PE X z (tE X.K cx e)) :
    PS X (.Expr (.Call (.Attribute (.Name x p1) "append" ap) [z] [] cp) p2) (tS X.K (evS cx (.append i e))) := by
  obtain ⟨n1, n2, n3, n4⟩ := C.name hx
  have hs := head_star (ck_head hz) [] X.env
  have hA : PA X [z] (tEs X.K cx (.cons e .nil)) := snd_cons (by simp [npS]) he snd_nil hs
  refine PS.imp (ps_expr (pe_bm PySem.F.plainAttrs_list PySem.F.slot_list_append PySem.F.type_list_append mt_append (pe_var n1 n2 n3 n4) hA rfl (few1 hz) (by simpa using hl) hs rfl)) fun E σ H ⟨G, F, δ, out, ok, ev, post⟩ => ?_
  simp only [evS] at ev
  cases q : δ[i]? with
  | none => rw [q] at ev; cases ev
  | some s =>
    rw [q] at ev
    cases s with
    | no => cases ev
    | fnc _ _ => cases ev
    | val _ => cases ev
    | own ds0 =>
      simp only [Option.bind_eq_bind, Option.bind_eq_some_iff] at ev
      obtain ⟨⟨d, δ1⟩, e1, ev⟩ := ev
      dsimp only at ev
      obtain ⟨a, xs0, ea, f1, f2, f3, f4⟩ := ok.sl i _ q
      cases q1 : δ1[i]? with
      | none => rw [q1] at ev; cases ev
      | some s1 =>
        rw [q1] at ev
        cases s1 with
        | no => cases ev
        | fnc _ _ => cases ev
        | val _ => cases ev
        | own ds =>
          dsimp only at ev
          split at ev
          · rename_i hz'
            cases ev
            refine ⟨.ref a, ea, .inl ⟨rfl, xs0, .inl (.inl f3)⟩, G, F, δ, [d], δ1, ok, by simp [evEs, e1], fun vs H1 F1 st sm ok1 r => ?_⟩
            obtain ⟨d', ds', v, vs', ed, rfl, rv, rn⟩ := r
            cases ed
            obtain ⟨_, rfl⟩ := rn
            have rv' := rel_of n rv
            obtain ⟨a', xs, ea', g1, g2, g3, g4⟩ := ok1.sl i _ q1
            rw [ea] at ea'
            cases ea'
            obtain ⟨o1, o2⟩ := ok1.write q1 ea (g4.append (RelL.one rv'))
            exact ⟨a, xs, v, rfl, rfl, g3, by rw [g4.length]; exact hz', post σ _ F1 (st.trans o2) o1⟩
          · cases ev
theorem sndN {e : E} {y : Expr} (hm : newOk e = true) (C : Cok X c cx k) (h : ckE c e y = true) : PE X y (tN X.K cx e) := by
  unfold newOk at hm
  split at hm
  · obtain ⟨_, _, rfl, hh⟩ := onLst_of h
    rw [Bool.and_eq_true] at hh
    exact sndN_lst hh.2 (sndEs _ X c _ C hh.1 (noPk_ok hh.2))
  · rename_i es
    obtain ⟨_, _, xs, _, rfl, hh⟩ := onCN_of h
    simp only [Bool.and_eq_true] at hh
    obtain ⟨⟨h1, h2⟩, h3⟩ := hh
    have e1 := of_decide_eq_true h1
    subst e1
    have h3 : (!xs.isEmpty && ckEs c es xs && okEs es) = true := h3
    simp only [Bool.and_eq_true] at h3
    cases xs with
    | nil => simp at h3
    | cons y ys => exact sndN_list C h2 (sndEs _ X c _ C h3.1.2 h3.2) h3.1.2
  · obtain ⟨_, _, _, rfl, hh⟩ := onSub_of h
    obtain ⟨_, _, o, _, rfl, h9⟩ := onSl_of hh
    simp only [Bool.and_eq_true] at h9
    obtain ⟨h0, ⟨⟨h1, h2⟩, h3⟩, h4⟩ := h9
    obtain rfl := Option.isNone_iff_eq_none.mp h0
    exact sndN_sl (by simpa using h4) (sndE _ X c _ C h1) (sndO _ X c _ C h2) (sndO _ X c _ C h3)
  · cases hm
end
section
variable {X : Cx} {c : Ck} {cx : Cl} {k : Nat}
theorem sndS_cmp (C : Cok X c cx k) (hS : X.env.scope = c.sc) (hB : X.env.blockKind = .function) {own : Bool} {i kk : Nat} {tg : Tg} {src : It} {ifs : Eo} {elt : E} {t : Str} {tp p sp : Pos} {ex : Expr} {gs : List Comprehension} {sc : Scope}
    (hn : nameTo c i t = true) (h : ckE c (.comp kk tg src ifs elt) (.ListComp ex gs sc p) = true) (hl : c.sc.names.lookup t = some .local) (hp : tp.line = p.line) (hz : (!(sc.names.any fun (n, k) => n == t && (k == .local || k == .cell))) = true) :
    PS X (.Assign [.Name t tp] (.ListComp ex gs sc p) sp) (tS X.K (evS cx (.cmp own i (.comp kk tg src ifs elt)))) := by
  obtain ⟨n1, n2, n3⟩ := C.to hn
  obtain ⟨_, _, _, _, e, hh⟩ := onLC_of h
  cases e
  obtain ⟨_, rfl, h9⟩ := on1_of hh
  obtain ⟨tgt, it, il, rfl, h10⟩ := onG_of h9
  replace h := h10
  · split at h
    · rename_i ts ht
      simp only [Bool.and_eq_true] at h
      obtain ⟨⟨⟨⟨⟨⟨⟨⟨h1, h2⟩, h3⟩, h4⟩, h5⟩, h6⟩, h7⟩, h8⟩, h9⟩ := h
      obtain ⟨nd, hvis⟩ := names_of' h4
      have hk := tgNames_len (tg := tg) (c := c) (of_decide_eq_true h1)
      have hsw : swapsWith (.ListComp ex [⟨tgt, it, il, 0⟩] sc p) (some (.Name t tp)) sp.line X.env = pure true := by
        have e1 : X.env.kindOf t = some .local := by
          show X.env.scope.names.lookup t = some .local
          rw [hS]; exact hl
        show (pure (X.env.blockKind == .function && X.env.kindOf t == some .local && tp.line == p.line && !(sc.names.any fun (n, k) => n == t && (k == .local || k == .cell))) : Sem Bool) = pure true
        rw [hB, e1, hp, hz]
        congr 1
        simp
      intro pins s σ H E I hq
      refine ps_lcomp (Nc := maskN ts c.N ++ ts) (te := tE X.K cx elt) (tt := tG X.K cx ifs) (g := gTg X.K tg) C.xe C.calm (scope_of C h3) (fun i x hi => by rw [C.hN] at hi ⊢; exact hvis i x hi) (by rw [C.hN, hk]; omega) (sndI src X c _ _ C h6)
        (fun cl Ca s H fp => snd_tg (cok_block C h3 nd cl Ca s H fp) h5) (fun cl Ca s H fp => sndG ifs _ _ _ (cok_block C h3 nd cl Ca s H fp) h7) (fun cl Ca s H fp => sndE elt _ _ _ (cok_block C h3 nd cl Ca s H fp) h8) (fun v => ckI_set h6 _ v)
        C.nd' n1 n2 n3 hsw pins s σ H E I ?_
      obtain ⟨G, F, δ, o, ok, ev, post⟩ := hq
      simp only [evS, Option.bind_eq_bind, Option.bind_eq_some_iff] at ev
      obtain ⟨⟨d, δ1⟩, e1, ev⟩ := ev
      cases d with
      | lst ds =>
        dsimp only at ev
        split at ev
        · rename_i hi
          cases ev
          refine comp_any C I h9 hk h2 ok e1 fun p ys xs H1 F1 H2 F2 e st1 st2 hp hg ok2 eD rl sm => ?_
          cases e
          show E.nx (σ.set i (some (.ref p))) H2
          cases own with
          | true =>
            refine post _ H2 F2 (st1.trans st2) ((ok2.keep).own hi (ok2.rf p (.inr rfl)) hg eD rl fun j es ej z => ?_)
            obtain ⟨a, zs, e2, _, g2, _, _⟩ := ok2.sl j _ ej
            rw [z] at e2
            cases e2
            exact g2.2 (.inr rfl)
          | false =>
            have st' : Step G F1 H1 (fun b => F2 b ∧ b ≠ p) H2 := ⟨st2.keep, fun b z => st2.grow b z.1, fun b o r f e => by
              obtain ⟨a1, a2⟩ := st2.res b o r f e
              exact ⟨⟨a1, fun w => by rw [w, hp] at e; cases e⟩, a2⟩, st2.tb⟩
            refine post _ H2 _ (st1.trans st') ((ok2.leave hg).set hi ?_)
            unfold Rel
            exact ⟨p, xs, rfl, .inl ⟨.inl eD, fun z => z.2 rfl⟩, RelL.less ok2.fd (fun b z => z.1) rl⟩
        · cases ev
      | _ => cases ev
    · cases h
end
section
variable {X : Cx} {c : Ck} {cx : Cl} {k : Nat} (C : Cok X c cx k) (hS : X.env.scope = c.sc) (hB : X.env.blockKind = .function)
include C hS hB
mutual
theorem sndS : ∀ (s : S) (x : Stmt), ckS c s x = true → PS X x (tS X.K (evS cx s))
  | .asg tg e, x, h => by
    obtain ⟨_, _, _, rfl, hq1⟩ := onAsg_of h
    obtain ⟨_, rfl, hq2⟩ := on1_of hq1
    replace h := hq2
    · simp only [Bool.and_eq_true] at h
      obtain ⟨⟨⟨⟨h1, h2⟩, h3⟩, h4⟩, h5⟩ := h
      exact sndS_asg C h5 h1 h2 h3 h4 (sndE e X c _ C h2)
  | .new i e, x, h => by
    obtain ⟨_, _, _, rfl, hq1⟩ := onAsg_of h
    obtain ⟨_, rfl, hq2⟩ := on1_of hq1
    obtain ⟨_, _, rfl, hq3⟩ := onName_of hq2
    replace h := hq3
    · simp only [Bool.and_eq_true] at h
      obtain ⟨⟨⟨h1, h2⟩, h3⟩, h4⟩ := h
      exact sndS_new C h1 h2 h3 (sndN h4 C h2)
  | .cmp own i e, x, h => by
    have h : (isCmpE e && _) = true := h
    rw [Bool.and_eq_true] at h
    obtain ⟨h0, h⟩ := h
    cases e <;> first | (cases h0; done) | skip
    obtain ⟨_, _, _, rfl, hh⟩ := onAsg_of h
    obtain ⟨_, rfl, h2⟩ := on1_of hh
    obtain ⟨_, _, rfl, h3⟩ := onNP_of h2
    obtain ⟨_, _, _, _, rfl, h4⟩ := onLC_of h3
    simp only [Bool.and_eq_true] at h4
    obtain ⟨⟨⟨⟨a1, a2⟩, a3⟩, a4⟩, a5⟩ := h4
    exact sndS_cmp C hS hB a1 a2 (of_decide_eq_true a3) (of_decide_eq_true a4) a5
  | .aug i op e, x, h => by
    obtain ⟨_, _, _, _, rfl, hq1⟩ := onAug_of h
    obtain ⟨_, _, rfl, hq2⟩ := onName_of hq1
    replace h := hq2
    · simp only [Bool.and_eq_true] at h
      obtain ⟨⟨⟨h1, h2⟩, h3⟩, h4⟩ := h
      exact sndS_aug C h1 h2 h4 (sndE e X c _ C h3)
  | .ret e, x, h => by
    obtain ⟨_, _, rfl, hq1⟩ := onRet_of h
    obtain ⟨_, rfl, hq2⟩ := onO_of hq1
    replace h := hq2
    · rw [Bool.and_eq_true] at h
      exact sndS_ret h.2 (sndE e X c _ C h.1)
  | .retL _ _ _ _, x, h => by
    cases h
  | .retN, x, h => by
    obtain ⟨y, _, rfl, hh⟩ := onRet_of h
    obtain rfl := Option.isNone_iff_eq_none.mp hh
    exact sndS_retN
  | .ifs t a b, x, h => by
    obtain ⟨_, _, _, _, rfl, hq1⟩ := onIfS_of h
    replace h := hq1
    · simp only [Bool.and_eq_true] at h
      exact sndS_ifs (sndT t X c _ C h.1.1) (sndSs a _ h.1.2) (sndSs b _ h.2)
  | .for_ tg src body, x, h => by
    obtain ⟨_, _, _, _, _, rfl, hq1⟩ := onFor_of h
    obtain ⟨rfl, hq2⟩ := on0_of hq1
    replace h := hq2
    · simp only [Bool.and_eq_true] at h
      exact sndS_for C h.1.1 (sndI src X c _ _ C h.1.2) (fun v => ckI_set h.1.2 _ v) (sndSs body _ h.2)
  | .forZ tg es body, x, h => by
    obtain ⟨t, it, ys, z, p, rfl, h1⟩ := onFor_of h
    obtain ⟨rfl, h2⟩ := on0_of h1
    obtain ⟨n, np, xs, cp, rfl, h3⟩ := onCN_of h2
    obtain ⟨u, v, rfl, h4⟩ := on2_of h3
    simp only [Bool.and_eq_true] at h4
    obtain ⟨⟨⟨⟨⟨⟨a1, a2⟩, a3⟩, a4⟩, a5⟩, a6⟩, a7⟩ := h4
    have e := of_decide_eq_true a2
    subst e
    exact sndS_forZ C a1 a4 (C.global a3).1 (C.blt _ (by decide +kernel)) (sndEs es X c _ C a5 (noPk_ok a6)) a5 a6 (sndSs body _ a7)
  | .while_ t body, x, h => by
    obtain ⟨_, _, _, _, rfl, hq1⟩ := onWh_of h
    obtain ⟨rfl, hq2⟩ := on0_of hq1
    replace h := hq2
    · rw [Bool.and_eq_true] at h
      exact sndS_while C (sndT t X c _ C h.1) (sndSs body _ h.2)
  | .append i e, x, h => by
    obtain ⟨_, _, rfl, hh⟩ := onEx_of h
    obtain ⟨_, _, _, _, _, rfl, hln, h2⟩ := onM_of hh
    obtain ⟨_, _, rfl, h3⟩ := onName_of h2
    obtain ⟨_, rfl, h4⟩ := on1_of h3
    simp only [Bool.and_eq_true] at h4
    obtain ⟨⟨⟨a1, a2⟩, a3⟩, a4⟩ := h4
    have z := of_decide_eq_true a1
    subst z
    exact sndS_append C a2 hln a3 a4 (sndE e X c _ C a3)
  | .pass, x, h => by
    obtain ⟨_, ⟨_, rfl⟩ | ⟨e, _⟩ | ⟨e, _⟩⟩ := isPB_of h
    · exact sndS_pass
    · cases e
    · cases e
  | .brk, x, h => by
    obtain ⟨_, ⟨e, _⟩ | ⟨_, rfl⟩ | ⟨e, _⟩⟩ := isPB_of h
    · cases e
    · exact sndS_brk
    · cases e
  | .cont, x, h => by
    obtain ⟨_, ⟨e, _⟩ | ⟨e, _⟩ | ⟨_, rfl⟩⟩ := isPB_of h
    · cases e
    · cases e
    · exact sndS_cont
theorem sndSs : ∀ (ss : Ss) (xs : List Stmt), ckSs c ss xs = true → PSs X xs (tS X.K (evSs cx ss))
  | .nil, xs, h => by
    obtain ⟨rfl, hq1⟩ := on0_of h
    replace h := hq1
    · exact sndS_nil
  | .cons s ss, xs, h => by
    obtain ⟨_, _, rfl, hq1⟩ := onS_of h
    replace h := hq1
    · rw [Bool.and_eq_true] at h
      exact sndS_cons (sndS s _ h.1) (sndSs ss _ h.2)
end
end
end PP
end
section
namespace PP
open PySem L2 PyProof.Rows
variable [Tbs]
structure Mk (X : Cx) (P : Addr) (q : Str) : Prop where
  cd : ∃ c, X.env.code = .ref c ∧ PySem.W.CodeHd X.base c P
  ql : X.env.qual ++ "<lambda>" = q
  tb : (P, q) ∈ Tbs.ts
  un : ∀ t ∈ Tbs.ts, t.1 = P → t.2 = q
  bm : ∃ bm ob, X.mg "__builtins__" = some (.ref bm) ∧ bm ≠ builtinsNs ∧ X.base.get? bm = some ob ∧ ob.cls = .type "module" ∧ ob.dict = some builtinsNs ∧ ob.data = .plain
theorem among_snoc {p : Pos} {a b : Int} {c v : Value} (l : List Value) (h : TriplesOk l) (e : codeAmong p (l ++ [rawInt a, rawInt b, c]) = some v) : codeAmong p l = some v ∨ v = c := by
  fun_induction TriplesOk l with
  | case1 =>
    simp only [List.nil_append, codeAmong, rawInt] at e
    split at e
    · cases e; exact .inr rfl
    · cases e
  | case2 a' t b' u x rest ih =>
    simp only [List.cons_append, codeAmong] at e ⊢
    split at e
    · rename_i hc; rw [if_pos hc]; exact .inl e
    · rename_i hc; rw [if_neg hc]; exact ih h e
  | case3 l h1 h2 => exact h.elim
theorem fz_ok {P : Program} {w : World} {H : Hp} {h : Heap} {a : Addr} {o : Obj} (g : h.get? a = some o) : ObjOk P w H h a (fzO a o) := ⟨g, g, ⟨o, g⟩, fun h1 h2 e1 k => k _ e1⟩
section
variable {X : Cx} {cx : Cl} {k : Nat}
theorem mk_fn {pins : List (Addr × Obj)} {s : Shared} {σ : L2.St} {H : Hp} {P : Addr} {q : Str} {params : Arguments} {body : Expr} {scope : Scope} {pos : Pos} {clos : List (Str × Addr)} {Q : VK} (I : Inv X pins σ H s) (M : Mk X P q) (tabs : Tabs H) (hcl : closureFor scope X.env = pure clos) (hdef : defaultsOf params X.env = ([], []))
    (h : ∀ (f c' : Addr) (oc : Obj) (vs : Array Value) (tk : Tok) (pm ctv : Value) (H' : Hp), Sim H H' → Tabs H' → Fz H' f (PySem.W.kla_obj "<lambda>" q params body scope clos pm c' ctv) → Fz H' c' oc → oc.data = .fields vs → vs[1]? = some (.str q tk) → Q (.ref f) H') :
    wpAny (model X.prog X.w) X.A (eval (.Lambda params body scope pos) X.env) (EP X pins σ Q) X.xe s := by
  refine PySem.W.kla_eval hdef ?_
  rw [M.ql]
  obtain ⟨ps, hP, tr, am⟩ := tabs _ M.tb
  dsimp only at hP am
  obtain ⟨c, hcode, CH⟩ := M.cd
  obtain ⟨bm, ob, b1, b2, b3, b4, b5, b6⟩ := M.bm
  have hg : s.heap.Ns mainGlobals X.mg := I.mod.glob.keeps I.bk
  have hPh : s.heap.get? P = some (PySem.W.tabObj ps) := I.hok P _ hP
  have hgP : mainGlobals ≠ P := fun z => by
    obtain ⟨o, es, ep, e, hd, _⟩ := hg
    rw [z, hPh] at e; cases e; cases hd
  have hbP : bm ≠ P := fun z => by
    have := (I.bs _ _ b3).2
    rw [z, hP] at this; cases this
  have hbG : bm ≠ mainGlobals := fun z => by
    obtain ⟨o, es, ep, e, hd, _⟩ := hg
    have := I.bk _ _ b3
    rw [z, e] at this; cases this; rw [hd] at b6; cases b6
  have BA : s.heap.BuiltinsAt X.mg P := ⟨bm, ob, b1, b2, hbG, hbP, I.bk _ _ b3, b4, b5, b6⟩
  cases ca : codeAmong pos ps.toList with
  | some cv =>
    refine PySem.W.kla_makeFunctionHit (mg := X.mg) hcl I.ok.glob hg hcode (CH.keeps I.bk) hPh tr ca BA fun ctv h' tk hk hsz => ?_
    obtain ⟨c', oc, vs, t, rfl, fc, hd, hv⟩ := am pos cv ca
    have hn : H h'.objs.size = none := I.hok.fresh hsz
    have sm := same_new hn (fzO h'.objs.size (PySem.W.kla_obj "<lambda>" q params body scope clos ((X.mg "__name__").getD .none) c' ctv))
    refine ⟨.ref h'.objs.size, _, I.laid (t' := tk) (fun b u e => Heap.get?_push_of_some _ (hk b u e)) hsz (fz_ok (Heap.get?_push_size _ rfl)), rfl, ?_⟩
    exact h _ c' oc vs t _ ctv _ (.of sm) (tabs.keep fun b o _ e => sm b o e) upd_same (sm _ _ fc) hd hv
  | none =>
    refine PySem.W.kla_makeFunction (mg := X.mg) hcl I.ok.glob hg hcode (CH.keeps I.bk) hPh tr ca hgP BA fun c' ctv h' tk hx hge hlt hrec htb => ?_
    obtain ⟨c₂, oc, vs, t, e2, hoc, hd, hv⟩ := hrec
    cases e2
    generalize ho : PySem.W.kla_obj "<lambda>" q params body scope clos ((X.mg "__name__").getD .none) c' ctv = fo at *
    have hfl : s.heap.objs.size ≤ h'.objs.size := Nat.le_of_lt (Nat.lt_of_le_of_lt hge hlt)
    have nc : H c' = none := I.hok.fresh hge
    have nf : H h'.objs.size = none := I.hok.fresh hfl
    have cP : c' ≠ P := fun z => by rw [z, hP] at nc; cases nc
    have fP : h'.objs.size ≠ P := fun z => by rw [z, hP] at nf; cases nf
    have cf : c' ≠ h'.objs.size := Nat.ne_of_lt hlt
    let H1 := upd H P (.tbl (ps ++ #[rawInt pos.line, rawInt pos.col, .ref c']))
    let H2 := upd H1 c' (fzO c' oc)
    let H3 := upd H2 h'.objs.size (fzO h'.objs.size fo)
    have at3 : ∀ b, b ≠ P → b ≠ c' → b ≠ h'.objs.size → H3 b = H b := fun b x y z => by
      show upd H2 _ _ b = _
      rw [upd_ne z]
      show upd H1 _ _ b = _
      rw [upd_ne y]
      show upd H _ _ b = _
      rw [upd_ne x]
    have atf : H3 h'.objs.size = some (fzO h'.objs.size fo) := upd_same
    have atc : H3 c' = some (fzO c' oc) := by
      show upd H2 _ _ c' = _
      rw [upd_ne cf]
      exact upd_same
    have atP : H3 P = some (.tbl (ps ++ #[rawInt pos.line, rawInt pos.col, .ref c'])) := by
      show upd H2 _ _ P = _
      rw [upd_ne (Ne.symm fP)]
      show upd H1 _ _ P = _
      rw [upd_ne (Ne.symm cP)]
      exact upd_same
    have atO : ∀ b o, b ≠ P → H b = some o → H3 b = some o := fun b o n e => by
      rw [at3 b n (fun z => by rw [z, nc] at e; cases e) (fun z => by rw [z, nf] at e; cases e)]
      exact e
    have nt3 : ∀ b o, (∀ qs, o ≠ .tbl qs) → H b = some o → H3 b = some o := fun b o n e => atO b o (fun z => by rw [z, hP] at e; cases e; exact n _ rfl) e
    have kh : ∀ b o, b ≠ P → s.heap.get? b = some o → (h'.push fo).get? b = some o := fun b o n e => Heap.get?_push_of_some _ (hx b o n e)
    have gP : (h'.push fo).get? P = some (PySem.W.tabObj (ps ++ #[rawInt pos.line, rawInt pos.col, .ref c'])) := Heap.get?_push_of_some _ htb
    have hok3 : HOk X.prog X.w H3 (h'.push fo) := fun b u e => by
      by_cases hf : b = h'.objs.size
      · subst hf; rw [atf] at e; cases e; exact fz_ok (Heap.get?_push_size _ (by rw [← ho]; rfl))
      · by_cases hc : b = c'
        · subst hc; rw [atc] at e; cases e; exact fz_ok (Heap.get?_push_of_some _ hoc)
        · by_cases hp : b = P
          · subst hp; rw [atP] at e; cases e; exact gP
          · rw [at3 b hp hc hf] at e
            refine (I.hok b u e).stay (fun b' u' z g => kh b' u' ?_ g) (fun b' z => nt3 b' _ (fun qs w => by cases w) z) fun b' xs z => nt3 b' _ (fun qs w => by cases w) z
            rcases z with z | z
            · rw [z]; exact hp
            · rintro rfl; rw [hP] at z; cases z
    have un3 : Un X.fs [] H H3 s.heap (h'.push fo) := ⟨fun b o e n _ _ => kh b o (fun z => by rw [z, hP] at n; cases n) e, fun b o e n _ _ => ⟨o.slots, kh b o (fun z => by rw [z, hP] at n; cases n) e⟩,
      fun b o e n _ => by
        rw [at3 b (fun z => by rw [z, hP] at n; cases n) (Nat.ne_of_lt (Nat.lt_of_lt_of_le (Heap.lt_size e) hge)) (Nat.ne_of_lt (Nat.lt_of_lt_of_le (Heap.lt_size e) hfl))]; exact n,
      fun b o e _ => by
        by_cases hp : b = P
        · exact ⟨_, hp ▸ gP⟩
        · exact ⟨o, kh b o hp e⟩,
      fun b xs e => nt3 b _ (fun qs w => by cases w) e, fun b o u e => nt3 b _ (fun qs w => by cases w) e,
      fun b qs e => by
        by_cases hp : b = P
        · subst hp; rw [hP] at e; cases e; exact ⟨_, atP⟩
        · exact ⟨#[], by rw [atO b _ hp e]; simp⟩⟩
    refine ⟨.ref h'.objs.size, H3, I.un (t' := tk) un3 hok3, rfl, ?_⟩
    refine h _ c' oc vs t _ ctv H3 ⟨fun b o n e => nt3 b o (fun qs w => by rw [w] at n; exact n) e, fun b qs e => ?_⟩ (fun t' ht => ?_) (by rw [ho]; exact atf) atc hd hv
    · by_cases hp : b = P
      · exact ⟨_, hp ▸ atP⟩
      · exact ⟨qs, atO b _ hp e⟩
    · have fzk : ∀ a o, Fz H a o → Fz H3 a o := fun a o z => nt3 a _ (fun qs w => by cases w) z
      by_cases hp : t'.1 = P
      · have := M.un t' ht hp
        refine ⟨_, by rw [hp]; exact atP, by simpa using TriplesOk_snoc pos.line pos.col (.ref c') _ tr, fun p cv e => ?_⟩
        rw [Array.toList_append] at e
        rcases among_snoc _ tr e with z | z
        · obtain ⟨c₁, o₁, v₁, t₁, z1, z2, z3, z4⟩ := am p cv z
          exact ⟨c₁, o₁, v₁, t₁, z1, fzk _ _ z2, z3, by rw [this]; exact z4⟩
        · exact ⟨c', oc, vs, t, z, atc, hd, by rw [this]; exact hv⟩
      · obtain ⟨qs, a1, a2, a3⟩ := tabs t' ht
        refine ⟨qs, atO _ _ hp a1, a2, fun p cv e => ?_⟩
        obtain ⟨c₁, o₁, v₁, t₁, z1, z2, z3⟩ := a3 p cv e
        exact ⟨c₁, o₁, v₁, t₁, z1, fzk _ _ z2, z3⟩
end
end PP
end
section
namespace PP
open PySem L2 PyProof.Rows
variable [Tbs]
section
variable {K : PySem.W.Frag} {H H' : Hp} {h : Heap} {F : Addr → Prop} {cs : List (Addr × Obj)}
theorem Un0.same (u : Un0 H h cs) : Same H (addF H cs) := fun b o e => addF_of u e
theorem sim_del (u : Un0 H h cs) (s : Sim (addF H cs) H') : Sim H (delF H' cs) := by
  have out : ∀ b o, H b = some o → cs.lookup b = none := fun b o e => by
    cases q : cs.lookup b with
    | none => rfl
    | some x => rw [(u b x q).1] at e; cases e
  exact ⟨fun b o n e => by rw [delF_out (out b o e)]; exact s.nt b o n (u.same b o e), fun b ps e => by
    obtain ⟨qs, z⟩ := s.tb b ps (u.same b _ e)
    exact ⟨qs, by rw [delF_out (out b _ e)]; exact z⟩⟩
theorem fz_del (z : Fz0 H cs) (hc : ∀ b o, cs.lookup b = some o → ∃ v, o.data = .cell v) {a : Addr} {o : Obj} (e : Fz H a o) (n : ∀ v, o.data ≠ .cell v) : Fz (delF H cs) a o := by
  cases q : cs.lookup a with
  | none => unfold Fz; rw [delF_out q]; exact e
  | some x =>
    have y := z a x q
    unfold Fz at e
    rw [e] at y
    unfold fzO at y
    cases y
    obtain ⟨v, d⟩ := hc a o q
    exact absurd d (n v)
theorem tabs_del (t : Tabs H) (z : Fz0 H cs) (hc : ∀ b o, cs.lookup b = some o → ∃ v, o.data = .cell v) : Tabs (delF H cs) := fun y hy => by
  obtain ⟨ps, h1, h2, h3⟩ := t y hy
  refine ⟨ps, ?_, h2, fun pos cv e => ?_⟩
  · cases q : cs.lookup y.1 with
    | none => rw [delF_out q]; exact h1
    | some x =>
      have := z _ x q
      rw [h1] at this
      cases this
  · obtain ⟨c, o, vs, tk, e1, e2, e3, e4⟩ := h3 pos cv e
    exact ⟨c, o, vs, tk, e1, fz_del z hc e2 (fun v w => by rw [e3] at w; cases w), e3, e4⟩
theorem sqt_del (z : Fz0 H cs) {a : Addr} {xs : List V} (h : SqT K H a xs) : SqT K (delF H cs) a xs := by
  rcases h with h | h
  · left
    cases q : cs.lookup a with
    | none =>
      rcases h with h | ⟨o, h⟩
      · exact .inl (by rw [delF_out q]; exact h)
      · exact .inr ⟨o, by rw [delF_out q]; exact h⟩
    | some x =>
      have y := z a x q
      rcases h with h | ⟨o, h⟩
      · rw [h] at y; cases y
      · rw [h] at y; cases y
  · exact .inr h
mutual
theorem rel_del (z : Fz0 H cs) : ∀ (d : D) (v : V), lf d = true → Rel K H F d v → Rel K (delF H cs) F d v
  | .non, v, _, h => by unfold Rel at h ⊢; exact h
  | .bl b, v, _, h => by unfold Rel at h ⊢; exact h
  | .int i, v, _, h => by unfold Rel at h ⊢; exact h
  | .str x, v, _, h => by unfold Rel at h ⊢; exact h
  | .lst ds, v, l, h => by unfold lf at l; cases l
  | .tup ds, v, l, h => by
    unfold lf at l
    unfold Rel at h ⊢
    obtain ⟨a, xs, e, h1, h3⟩ := h
    exact ⟨a, xs, e, sqt_del z h1, relL_del z ds xs l h3⟩
  | .fn _ _, v, l, h => by unfold lf at l; cases l
theorem relL_del (z : Fz0 H cs) : ∀ (ds : List D) (xs : List V), lfL ds = true → RelL K H F ds xs → RelL K (delF H cs) F ds xs
  | [], xs, _, h => by unfold RelL at h ⊢; exact h
  | d :: ds, xs, l, h => by
    unfold lfL at l
    rw [Bool.and_eq_true] at l
    unfold RelL at h ⊢
    obtain ⟨y, ys, e, h1, h2⟩ := h
    exact ⟨y, ys, e, rel_del z d y l.1 h1, relL_del z ds ys l.2 h2⟩
end
theorem FD.add (fd : FD F H) (u : Un0 H h cs) : FD F (addF H cs) := fd.same u.same
theorem lookup_mem {b : Addr} {o : Obj} : ∀ {l : List (Addr × Obj)}, l.lookup b = some o → (b, o) ∈ l
  | [], h => by simp at h
  | (c, x) :: l, h => by
    rw [List.lookup_cons] at h
    cases q : (b == c) with
    | true =>
      rw [q] at h
      cases h
      rw [show b = c by simpa using q]
      exact List.mem_cons_self
    | false =>
      rw [q] at h
      exact List.mem_cons_of_mem _ (lookup_mem h)
theorem zip_lookup : ∀ {cells : List Addr} {os : List Obj} {p : Addr × Obj}, cells.Nodup → p ∈ cells.zip os → (cells.zip os).lookup p.1 = some p.2
  | [], _, _, _, h => by simp at h
  | _ :: _, [], _, _, h => by simp at h
  | c :: cells, o :: os, p, n, h => by
    rw [List.zip_cons_cons] at h ⊢
    rcases List.mem_cons.mp h with rfl | h
    · simp [List.lookup]
    · have hne : p.1 ≠ c := fun z => (List.nodup_cons.mp n).1 (by rw [← z]; exact (List.of_mem_zip (a := p.1) (b := p.2) h).1)
      have : (p.1 == c) = false := by simpa using hne
      rw [List.lookup_cons, this]
      exact zip_lookup (List.nodup_cons.mp n).2 h
end
noncomputable def CapsOk (X : Cx) : List Nat → List Str → List Addr → Prop
  | [], ys, cs => ys = [] ∧ cs = []
  | i :: r, ys, cs => ∃ y ys' c cs', ys = y :: ys' ∧ cs = c :: cs' ∧ X.N[i]? = some y ∧ X.env.kindOf y = some .cell ∧ X.env.cells.lookup y = some c ∧ CapsOk X r ys' cs'
section
variable {X : Cx} {cx : Cl} {k : Nat}
theorem flat_rel {K : PySem.W.Frag} {H : Hp} {F : Addr → Prop} {d : D} {v : V} (f : flat d = true) (r : Rel K H F d v) : v = flV d := by
  cases d <;> first | (unfold Rel at r; exact r) | (unfold flat at f; cases f)
theorem caps_mem : ∀ {caps : List Nat} {ys : List Str} {cells : List Addr}, CapsOk X caps ys cells → ∀ c ∈ cells, ∃ y ∈ ys, X.env.cells.lookup y = some c
  | [], ys, cells, h => by obtain ⟨rfl, rfl⟩ := h; simp
  | i :: r, ys, cells, h => by
    obtain ⟨y, ys', c, cs', rfl, rfl, _, _, e, h⟩ := h
    intro c' hc
    rcases List.mem_cons.mp hc with rfl | hc
    · exact ⟨y, List.mem_cons_self, e⟩
    · obtain ⟨y', h1, h2⟩ := caps_mem h c' hc
      exact ⟨y', List.mem_cons_of_mem _ h1, h2⟩
theorem caps_nodup (inj : ∀ x y c, X.env.cells.lookup x = some c → X.env.cells.lookup y = some c → x = y) : ∀ {caps : List Nat} {ys : List Str} {cells : List Addr}, CapsOk X caps ys cells → ys.Nodup → cells.Nodup ∧ cells.length = ys.length
  | [], ys, cells, h, _ => by obtain ⟨rfl, rfl⟩ := h; simp
  | i :: r, ys, cells, h, n => by
    obtain ⟨y, ys', c, cs', rfl, rfl, _, _, e, h⟩ := h
    obtain ⟨n1, n2⟩ := List.nodup_cons.mp n
    obtain ⟨a, b⟩ := caps_nodup inj h n2
    refine ⟨List.nodup_cons.mpr ⟨fun z => ?_, a⟩, by simp [b]⟩
    obtain ⟨y', h1, h2⟩ := caps_mem h c z
    exact n1 (inj y y' c e h2 ▸ h1)
theorem caps_ok {pins : List (Addr × Obj)} {σ : L2.St} {H : Hp} {s : Shared} {G : Gh} {F : Addr → Prop} {δ : Loc} (I : Inv X pins σ H s) (ok : Ok X.K G F σ H δ) : ∀ {caps : List Nat} {ys : List Str} {cells : List Addr} {cs : List D}, CapsOk X caps ys cells → capsD δ caps = some cs →
    ∃ os : List Obj, os.length = cells.length ∧ (∀ p ∈ cells.zip os, H p.1 = none ∧ s.heap.get? p.1 = some p.2 ∧ (∃ y, X.env.cells.lookup y = some p.1) ∧ ∃ v, p.2.data = .cell v) ∧ ∀ H' : Hp, (∀ p ∈ cells.zip os, Fz H' p.1 p.2) → CellsV H' cells cs
  | [], ys, cells, cs, h, e => by
    obtain ⟨rfl, rfl⟩ := h
    unfold capsD at e
    cases e
    exact ⟨[], rfl, by simp, fun _ _ => rfl⟩
  | i :: r, ys, cells, cs, h, e => by
    obtain ⟨y, ys', c, cs', rfl, rfl, hN, hk, hc, h⟩ := h
    unfold capsD at e
    cases q : get δ i with
    | none => rw [q] at e; cases e
    | some d =>
      rw [q] at e
      dsimp only at e
      split at e
      · rename_i hf
        rw [Option.map_eq_some_iff] at e
        obtain ⟨ds, e1, rfl⟩ := e
        obtain ⟨os, l, a1, a2⟩ := caps_ok I ok h e1
        obtain ⟨v, ev, rb, _⟩ := ok.look q
        have rv : v = flV d := by
          rcases rb with rb | ⟨_, _, _, z, _⟩
          · exact flat_rel hf rb
          · rw [z] at hf; cases hf
        subst rv
        obtain ⟨m, hn, hl⟩ := I.loc
        obtain ⟨u, ru, lk⟩ := hl i y _ hN ev (.inr (.inl hk))
        rcases lk with ⟨z, _⟩ | ⟨_, c', hc', o, ho, hd⟩
        · rw [hk] at z; cases z
        · rw [hc] at hc'; cases hc'
          refine ⟨o :: os, by simp [l], fun p hp => ?_, fun H' hz => ?_⟩
          · rw [List.zip_cons_cons] at hp
            rcases List.mem_cons.mp hp with rfl | hp
            · exact ⟨I.freeC y c hc, ho, ⟨y, hc⟩, _, hd⟩
            · exact a1 p hp
          · exact ⟨d, ds, o, u, rfl, hf, hz (c, o) (by rw [List.zip_cons_cons]; exact List.mem_cons_self), hd, ru, a2 H' fun p hp => hz p (by rw [List.zip_cons_cons]; exact List.mem_cons_of_mem _ hp)⟩
      · cases e
noncomputable def tLm (q : Str) (params : Arguments) (body : Expr) (scope : Scope) (clos : List (Str × Addr)) : TE := fun _ H Q => Tabs H ∧ ∀ (f c' : Addr) (oc : Obj) (vs : Array Value) (tk : Tok) (pm ctv : Value) (H' : Hp), Sim H H' → Tabs H' → Fz H' f (PySem.W.kla_obj "<lambda>" q params body scope clos pm c' ctv) → Fz H' c' oc → oc.data = .fields vs → vs[1]? = some (.str q tk) → Q (.ref f) H'
theorem pe_lm {P : Addr} {q : Str} {params : Arguments} {body : Expr} {scope : Scope} {pos : Pos} {clos : List (Str × Addr)} (M : Mk X P q) (hcl : closureFor scope X.env = pure clos) (hdef : defaultsOf params X.env = ([], [])) : PE X (.Lambda params body scope pos) (tLm q params body scope clos) :=
  fun pins s σ H Q I ⟨t, h⟩ => mk_fn I M t hcl hdef h
theorem retL_ev {f n : Nat} {es : Es} {caps : List Nat} {δ : Loc} {o : Out} (e : evS cx (.retL f es n caps) δ = some o) : ∃ ds δ1 cs d, evEs cx es δ = some (ds, δ1) ∧ capsD δ1 caps = some cs ∧ cx.hf f = true ∧ cx.call f (ds ++ [.fn n cs]) = some d ∧ lf d = true ∧ o = .rt d δ1 := by
  simp only [evS, Option.bind_eq_bind, Option.bind_eq_some_iff] at e
  obtain ⟨⟨ds, δ1⟩, e1, cs, e2, e⟩ := e
  dsimp only at e e2
  split at e
  · rename_i hf
    rw [Option.map_eq_some_iff] at e
    obtain ⟨r, er, e⟩ := e
    unfold lfO at er
    split at er
    · split at er
      · rename_i r' q hl
        cases er
        exact ⟨ds, δ1, cs, r, e1, e2, hf, q, hl, e.symm⟩
      · cases er
    · cases er
  · cases e
theorem snd_retL {c : Ck} (C : Cok X c cx k) {f n : Nat} {es : Es} {caps : List Nat} {x : Str} {y : Expr} {ys : List Expr} {ps : List Str} {P : Addr} {L : Lam} {cells : List Addr} {p lp pos rp : Pos} (hL : Tbs.lams.lookup n = some L) (M : Mk X P L.qual) (hcl : closureFor L.scope X.env = pure (L.caps.zip cells)) (hdef : defaultsOf L.params X.env = ([], []))
    (hcp : CapsOk X caps L.caps cells) (hnd : L.caps.Nodup) (hfn : ∀ y, X.fn y = true) (n0 : noPk es = true) (ef : c.fns[f]? = some (x, ps)) (hg : globIs c x = true)
    (hA : ∀ z tz, PE X z tz → starEach [z] X.env = (false, eval z X.env) :: starEach [] X.env → PA X (y :: (ys ++ [z])) (tEsL X.K cx es tz)) (he : ∀ z, starEach (y :: (ys ++ [z])) X.env = (false, eval y X.env) :: starEach (ys ++ [z]) X.env)
    (hpl : ∀ z, starEach [z] X.env = (false, eval z X.env) :: starEach [] X.env → (backTo pos (starEach (ys ++ [z]) X.env)).any (·.1) = false) :
    PS X (.Return (some (.Call (.Name x p) (y :: (ys ++ [.Lambda L.params L.body L.scope lp])) [] pos)) rp) (tS X.K (evS cx (.retL f es n caps))) := by
  obtain ⟨g1, g2, g3⟩ := C.global hg
  intro pins s σ H E I hq
  obtain ⟨G, F, δ, o, ok, ev, post⟩ := hq
  obtain ⟨ds, δ1, cs, d, ea, ec, hf, er, hl, rfl⟩ := retL_ev ev
  refine wpAny_Return_some ?_
  obtain ⟨a, fd, hm, hk, hb, fn⟩ := C.fnF f _ _ ef hf
  have fin : wpAny (model X.prog X.w) X.A (eval (.Call (.Name x p) (y :: (ys ++ [.Lambda L.params L.body L.scope lp])) [] pos) X.env) (EP X pins σ fun v H' => ∃ F', Step G F H F' H' ∧ Ok X.K G F' σ H' δ1 ∧ Rel X.K H' F' d v) X.xe s := by
    refine wpAny_Call_Name_kw (ld_glob I g1 hm ?_ g2)
    refine PySem.W.callWith_K (h₀ := X.base) I.ok.mod.kin hk (thn (hA _ _ (pe_lm M hcl hdef) rfl pos pins s σ H (fun vs' H1 => ∃ vs F1 fa c' oc ws tk pm ctv, vs' = vs ++ [.ref fa] ∧ Step G F H F1 H1 ∧ Ok X.K G F1 σ H1 δ1 ∧ RelL X.K H1 F1 ds vs ∧
        Fz H1 fa (PySem.W.kla_obj "<lambda>" L.qual L.params L.body L.scope (L.caps.zip cells) pm c' ctv) ∧ Fz H1 c' oc ∧ oc.data = .fields ws ∧ ws[1]? = some (.str L.qual tk)) I ⟨G, F, δ, ds, δ1, ok, ea, fun vs H1 F1 st1 sm1 ok1 r1 => ⟨ok1.tabs, fun fa c' oc ws tk pm ctv H2 s2 t2 z1 z2 z3 z4 => ?_⟩⟩) fun us s1 ⟨vs', H1, I1, r, q⟩ => ⟨I1.kIn, ?_⟩) (he _) (hpl _ rfl)
    · obtain ⟨ok2, st2⟩ := ok1.call s2 t2
      exact ⟨vs, F1, fa, c', oc, ws, tk, pm, ctv, rfl, st1.trans st2, ok2, RelL.step ok1.fd st2 ds vs (r1.rl n0), z1, z2, z3, z4⟩
    obtain ⟨vs, F1, fa, c', oc, ws, tk, pm, ctv, rfl, st, ok1, rl, z1, z2, z3, z4⟩ := q
    obtain ⟨os, hol, a1, a2⟩ := caps_ok I1 ok1 hcp ec
    have nd := (caps_nodup I1.ok.inj hcp hnd).1
    have un0 : Un0 H1 s1.heap (cells.zip os) := fun b o e => ⟨(a1 (b, o) (lookup_mem e)).1, (a1 (b, o) (lookup_mem e)).2.1⟩
    have isc : ∀ b o, (cells.zip os).lookup b = some o → ∃ v, o.data = .cell v := fun b o e => (a1 (b, o) (lookup_mem e)).2.2.2
    have nfr : ∀ b o, (cells.zip os).lookup b = some o → X.s₀.heap.objs.size ≤ b ∧ b ∉ frs X.stack := fun b o e => by
      obtain ⟨_, _, ⟨w, hw⟩, _⟩ := a1 (b, o) (lookup_mem e)
      have hsz := I1.ok.cab w b (hfn w) hw
      refine ⟨hsz, fun z => ?_⟩
      rcases List.mem_cons.mp (I1.stkSub b z) with z | z
      · exact I1.cne w b hw z
      · obtain ⟨_, o', ho', _⟩ := I1.ok.funs.mem z
        exact absurd (Nat.lt_of_lt_of_le (Heap.lt_size ho') hsz) (Nat.lt_irrefl _)
    have nb : ∀ b o, (cells.zip os).lookup b = some o → X.base.get? b = none ∧ b ∉ frs X.stack := fun b o e => ⟨Heap.get?_none_of_le (Nat.le_trans I1.ok.bsz (nfr b o e).1), (nfr b o e).2⟩
    have sm1 := un0.same
    have ok2 := ok1.same' sm1
    have fv : FnV (addF H1 (cells.zip os)) n cs fa := ⟨L, pm, ctv, c', oc, ws, tk, cells, hL, sm1 _ _ z1, sm1 _ _ z2, z3, z4, nd, (caps_nodup I1.ok.inj hcp hnd).2, a2 _ fun p hp => addF_in (zip_lookup nd hp)⟩
    have sp : spFF X.K (cx.call f) (vs ++ [.ref fa]) (addF H1 (cells.zip os)) (fun v H' => Sim (addF H1 (cells.zip os)) H' ∧ Tabs H' ∧ Rel X.K H' F1 d v) E0 :=
      ⟨F1, ds, vs, n, cs, fa, d, ok2.fd, ok2.tf, ok2.tabs, rfl, RelL.step (G := G) ok1.fd (Step.of_same sm1) ds vs rl, fv, er, fun v H' x1 x2 x3 => ⟨x1, x2, x3⟩⟩
    have hl2 : (us ++ ([] : List Value)).length = ps.length := by rw [List.append_nil, ← r.length]; exact fn.len _ _ _ _ sp
    have bb := hb s1 us I1.kIn hl2
    rw [List.append_nil] at bb
    refine wpAny_call (codeAny_mono (fn.run X.A X.stack s1 _ ⟨us, []⟩ us _ _ E0 C.room (Env0.add I1.env0 un0 nb) bb r sp) fun r s' hq => ?_)
    cases r with
    | error e => exact hq.elim
    | ok fl =>
      cases fl with
      | next => exact False.elim hq
      | brk => exact False.elim hq
      | cont => exact False.elim hq
      | ret u =>
        obtain ⟨v, H', I', rv, fz, x1, x2, x3⟩ := Inv.callF I1 un0 (fun b o e => (nfr b o e).2) hq
        obtain ⟨ok3, st3⟩ := ok1.call (sim_del un0 x1) (tabs_del x2 fz isc)
        exact ⟨v, _, I', rv, F1, st.trans st3, ok3, rel_del fz d v hl x3⟩
  exact thn fin fun u s1 ⟨v, H1, I1, rv, F1, st, ok1, rl⟩ => ⟨v, σ, H1, I1, rv, post v σ H1 F1 st ok1 rl⟩
end
end PP
end
section
namespace PP
open PySem L2 PyProof.Rows
variable [Tbs]
theorem start_ok {K : PySem.W.Frag} {H : Hp} {F : Addr → Prop} {ds : List D} {vs : List V} {N : List Str} (fd : FD F H) (tf : TF F) (tb : Tabs H) (r : RelL K H F ds vs) (hl : vs.length ≤ N.length) : Ok K ⟨H, fun b => F b ∧ ((∃ xs, H b = some (.lst xs)) ∨ ∃ φ, H b = some (.ext φ))⟩ F (start N vs) H (init N.length ds) := by
  have hlen := r.length
  have low : ∀ (i : Nat) (s : Sl), (init N.length ds)[i]? = some s → s = .no ∨ ∃ d, ds[i]? = some d ∧ s = .val d := fun i s e => by
    unfold init at e
    by_cases hi : i < ds.length
    · rw [List.getElem?_append_left (by simpa using hi), List.getElem?_map, List.getElem?_eq_getElem hi] at e
      cases e
      exact .inr ⟨_, List.getElem?_eq_getElem hi, rfl⟩
    · rw [List.getElem?_append_right (by simp; omega), List.getElem?_replicate] at e
      split at e
      · cases e; exact .inl rfl
      · cases e
  refine ⟨Sim.refl H, fd, fun b z => z.1, fun b z => z.2, tf, tb, ?_, fun i s e => ?_, fun i j es fs a e1 => ?_⟩
  · unfold init L2.start
    simp only [List.length_append, List.length_map, List.length_replicate]
    omega
  · rcases low i s e with rfl | ⟨d, e1, rfl⟩
    · trivial
    · obtain ⟨v, hv, rv⟩ := r.get e1
      refine ⟨v, ?_, rv⟩
      unfold L2.start
      have hi : i < vs.length := (List.getElem?_eq_some_iff.mp hv).1
      rw [List.getElem?_append_left (by simpa using hi), List.getElem?_map, hv]
      rfl
  · rcases low i _ e1 with z | ⟨d, _, z⟩ <;> cases z
section
variable {P : Program} {w : World} {H H' : Hp} {h h' : Heap} {cs : List (Addr × Obj)} {F : Addr → Prop}
theorem delF_none {b : Addr} (e : H b = none) : delF H cs b = none := by
  cases q : cs.lookup b with
  | none => rw [delF_out q]; exact e
  | some o => exact delF_in q
theorem Fz0.out (z : Fz0 H cs) {b : Addr} (n : ∀ o, H b ≠ some (fzO b o)) : cs.lookup b = none := by
  cases q : cs.lookup b with
  | none => rfl
  | some o => exact absurd (z b o q) (n o)
theorem Un.add {fs ex : List Addr} (z : Fz0 H cs) (u : Un fs ex (delF H cs) H' h h') (c : Un0 H' h' cs) : Un fs ex H (addF H' cs) h h' := by
  have out : ∀ {b}, H b = none → cs.lookup b = none := fun {b} e => z.out fun o q => by rw [e] at q; cases q
  refine ⟨fun b o e n hb hx => u.keep b o e (delF_none n) hb hx, fun b o e n hb hx => u.slot b o e (delF_none n) hb hx, fun b o e n hx => ?_, u.there, fun b xs e => ?_, fun b o y e => ?_, fun b ps e => ?_⟩
  · rw [addF_out (out n)]; exact u.free b o e (delF_none n) hx
  · have q := z.out (b := b) fun o q => by rw [e] at q; cases q
    rw [addF_out q]; exact u.tups b xs (by rw [delF_out q]; exact e)
  · cases q : cs.lookup b with
    | none => rw [addF_out q]; exact u.frzs b o y (by rw [delF_out q]; exact e)
    | some o' => rw [addF_in q, ← z b o' q]; exact e
  · have q := z.out (b := b) fun o q => by rw [e] at q; cases q
    obtain ⟨more, x⟩ := u.tbls b ps (by rw [delF_out q]; exact e)
    exact ⟨more, by rw [addF_out q]; exact x⟩
theorem sim_add (z : Fz0 H cs) (s : Sim (delF H cs) H') : Sim H (addF H' cs) := by
  refine ⟨fun b o n e => ?_, fun b ps e => ?_⟩
  · cases q : cs.lookup b with
    | none => rw [addF_out q]; exact s.nt b o n (by rw [delF_out q]; exact e)
    | some o' => rw [addF_in q, ← z b o' q]; exact e
  · have q := z.out (b := b) fun o q => by rw [e] at q; cases q
    obtain ⟨qs, x⟩ := s.tb b ps (by rw [delF_out q]; exact e)
    exact ⟨qs, by rw [addF_out q]; exact x⟩
theorem FD.del (fd : FD F H) (z : Fz0 H cs) : FD F (delF H cs) := fun b hb => by
  rcases fd b hb with ⟨xs, e⟩ | ⟨ps, e, t⟩ | ⟨φ, e⟩
  · exact .inl ⟨xs, by rw [delF_out (z.out fun o q => by rw [e] at q; cases q)]; exact e⟩
  · exact .inr (.inl ⟨ps, by rw [delF_out (z.out fun o q => by rw [e] at q; cases q)]; exact e, t⟩)
  · exact .inr (.inr ⟨φ, by rw [delF_out (z.out fun o q => by rw [e] at q; cases q)]; exact e⟩)
theorem FD.sim (fd : FD F H) (s : Sim H H') : FD F H' := fun b hb => by
  rcases fd b hb with ⟨xs, e⟩ | ⟨ps, e, t⟩ | ⟨φ, e⟩
  · exact .inl ⟨xs, s.nt _ _ trivial e⟩
  · obtain ⟨qs, e⟩ := s.tb b ps e
    exact .inr (.inl ⟨qs, e, t⟩)
  · exact .inr (.inr ⟨φ, s.nt _ _ trivial e⟩)
end
theorem cellsV_os {H : Hp} : ∀ {cells : List Addr} {cs : List D}, CellsV H cells cs → ∃ os : List Obj, os.length = cells.length ∧ cells.length = cs.length ∧ (∀ p ∈ cells.zip os, Fz H p.1 p.2 ∧ ∃ v, p.2.data = .cell v) ∧
    ∀ (j : Nat) (c : Addr) (d : D), cells[j]? = some c → cs[j]? = some d → ∃ o u, Fz H c o ∧ o.data = .cell (some u) ∧ RelV (flV d) u ∧ flat d = true
  | [], cs, h => by
    have h : cs = [] := h
    subst h
    exact ⟨[], rfl, rfl, by simp, by simp⟩
  | c :: r, cs, h => by
    obtain ⟨d, ds', o, u, rfl, h1, h2, h3, h4, h5⟩ := h
    obtain ⟨os, e1, e2, e3, e4⟩ := cellsV_os h5
    refine ⟨o :: os, by simp [e1], by simp [e2], fun p hp => ?_, fun j c' d' q1 q2 => ?_⟩
    · rw [List.zip_cons_cons] at hp
      rcases List.mem_cons.mp hp with rfl | hp
      · exact ⟨h2, _, h3⟩
      · exact e3 p hp
    · cases j with
      | zero => cases q1; cases q2; exact ⟨o, u, h2, h3, h4, h1⟩
      | succ j => exact e4 j c' d' (by simpa using q1) (by simpa using q2)
theorem flat_self {K : PySem.W.Frag} {H : Hp} {F : Addr → Prop} {d : D} (f : flat d = true) : Rel K H F d (flV d) := by
  cases d <;> first | (unfold Rel; rfl) | (unfold flat at f; cases f)
theorem key_lookup {β : Type} : ∀ {l : List (Str × β)} {x : Str} {v : β}, (l.map (·.1)).Nodup → (x, v) ∈ l → l.lookup x = some v
  | [], _, _, _, h => by simp at h
  | (y, u) :: l, x, v, n, h => by
    rw [List.map_cons] at n
    rcases List.mem_cons.mp h with e | h
    · cases e; simp [List.lookup]
    · have : x ≠ y := fun z => (List.nodup_cons.mp n).1 (by rw [← z]; exact List.mem_map.mpr ⟨(x, v), h, rfl⟩)
      have e : (x == y) = false := by simpa using this
      rw [List.lookup_cons, e]
      exact key_lookup (List.nodup_cons.mp n).2 h
theorem zip_mem {α β : Type} : ∀ {l : List α} {m : List β} {j : Nat} {x : α} {v : β}, l[j]? = some x → m[j]? = some v → (x, v) ∈ l.zip m
  | [], _, _, _, _, h, _ => by simp at h
  | _ :: _, [], _, _, _, _, h => by simp at h
  | a :: l, b :: m, 0, x, v, h, h' => by cases h; cases h'; exact List.mem_cons_self
  | a :: l, b :: m, j + 1, x, v, h, h' => List.mem_cons_of_mem _ (zip_mem (j := j) (by simpa using h) (by simpa using h'))
theorem zip_keys {α β : Type} : ∀ {l : List α} {m : List β}, l.length = m.length → (l.zip m).map (·.1) = l
  | [], _, _ => by simp
  | _ :: _, [], h => by simp at h
  | a :: l, b :: m, h => by simp [zip_keys (l := l) (m := m) (by simpa using h)]
structure LamOk (L : Lam) : Prop where
  kind : L.scope.kind = .function
  co : L.scope.isCoroutine = false
  gen : L.scope.isGenerator = false
  nocell : ∀ x ∈ L.scope.names, x.2 ≠ .cell
  ploc : ∀ x ∈ L.ps, L.scope.names.lookup x = some .local
  cfree : ∀ x ∈ L.caps, L.scope.names.lookup x = some .free
  frees : ∀ x ∈ L.scope.names, x.2 = .free → x.1 ∈ L.caps
  nd : (L.ps ++ L.caps).Nodup
  bd : ∀ (cl : List (Str × Addr)) (pm cdv ct : Value) (us : List Value), us.length = L.ps.length → bindArgs (PySem.W.kla_fn "<lambda>" L.qual L.params L.body L.scope cl pm cdv ct) ⟨us, []⟩ = pure (L.ps.zip us)
noncomputable def cxL (P : Program) (w : World) (K : PySem.W.Frag) (mg : Str → Option Value) (base : Heap) (L : Lam) (f : Addr) (cd : Value) (cl : List (Str × Addr)) (A : Around) (outer : List Env) (s : Shared) (H : Hp) : Cx where
  prog := P
  w := w
  K := K
  mg := mg
  base := base
  A := A.deeper (PySem.W.envX L.qual L.scope s.heap.objs.size f cd cl)
  N := L.ps ++ L.caps
  s₀ := s
  H₀ := H
  env := PySem.W.envX L.qual L.scope s.heap.objs.size f cd cl
  outer := outer
  stack := PySem.W.envX L.qual L.scope s.heap.objs.size f cd cl :: outer
  ex := []
  calm := true
  fn := fun _ => false
  pn := []
  xe := fun _ _ => False
theorem lam_ok {P : Program} {w : World} {K : PySem.W.Frag} {mg : Str → Option Value} {base : Heap} {n k : Nat} {f : List D → Option D} {L : Lam} {cx : Cl} {e : E} (hL : Tbs.lams.lookup k = some L) (lo : LamOk L)
    (hE : ∀ (a : Addr) (cd : Value) (cl : List (Str × Addr)) (A : Around) (outer : List Env) (s : Shared) (H : Hp), Room n (A.deeper (PySem.W.envX L.qual L.scope s.heap.objs.size a cd cl)) → PE (cxL P w K mg base L a cd cl A outer s H) L.body (tE K cx e))
    (np0 : isPk e = false) (hf : ∀ ds d, f ds = some d → ds.length = (L.ps ++ L.caps).length ∧ ∃ δ', evE cx e (init (L.ps ++ L.caps).length ds) = some (d, δ')) : LmOk P w K mg base (n + 1) k f := by
  intro A outer s H a us vs cs Q hr e0 rv fv hq
  obtain ⟨L', pm, ctv, c', oc, ws, tk, cells, h1, fo, fc, hd, hv, cnd, clen, cv⟩ := fv
  rw [hL] at h1
  cases h1
  obtain ⟨F, ds, d, fd, tf, tb, rl, lfl, er, lfd, post⟩ := hq
  obtain ⟨os, e1, e2, e3, e4⟩ := cellsV_os cv
  obtain ⟨hlen, δ', ev⟩ := hf _ _ er
  have lds : ds.length = L.ps.length := by rw [List.length_append, List.length_append, ← e2, clen] at hlen; omega
  have lvs : vs.length = L.ps.length := by rw [rl.length]; exact lds
  have lus : us.length = L.ps.length := by rw [← rv.length]; exact lvs
  have fz0 : Fz0 H (cells.zip os) := fun b o q => (e3 (b, o) (lookup_mem q)).1
  have isc : ∀ b o, (cells.zip os).lookup b = some o → ∃ v, o.data = .cell v := fun b o q => (e3 (b, o) (lookup_mem q)).2
  have hgo : ∀ {b : Addr} {o : Obj}, Fz H b o → s.heap.get? b = some o := fun {b o} z => (e0.hok b _ z).1
  have ho := hgo fo
  have hcd : s.heap.CodeRec (.ref c') L.qual := ⟨c', oc, ws, tk, rfl, hgo fc, hd, hv⟩
  have lim : s.heap.NoLimit := e0.mod.nolimit.keeps fun b o e => (e0.bs b o e).1
  have ndp : L.ps.Nodup := (List.nodup_append.mp lo.nd).1
  have ndc : L.caps.Nodup := (List.nodup_append.mp lo.nd).2.1
  have hok0 := HOk.del e0.hok fz0
  refine PySem.W.kla_callFunE hr.depth ho rfl lo.co lo.gen rfl hcd ?_
  rw [lo.bd _ _ _ _ us lus]
  have hloc : ∀ y ∈ L.ps.zip us, L.scope.names.lookup y.1 = some .local := fun ⟨y, u⟩ hy => lo.ploc y (List.of_mem_zip hy).1
  refine wpAny_pure (wpAny_newFunctionEnv lo.nocell hloc (fun h₁ hns hsb => ⟨lim.fresh _ hsb, ?_⟩) lo.kind)
  show codeAny _ _ (.expr L.body (PySem.W.envX L.qual L.scope s.heap.objs.size a (.ref c') (L.caps.zip cells))) _ _
  have hk₁ : ∀ b o, s.heap.get? b = some o → h₁.get? b = some o := fun b o e => hsb.extBut b o (Nat.ne_of_lt (Heap.lt_size e)) (Heap.get?_push_of_some _ e)
  have clk : ∀ (j : Nat) (x : Str) (c : Addr), L.caps[j]? = some x → cells[j]? = some c → (L.caps.zip cells).lookup x = some c := fun j x c q1 q2 => key_lookup (by rw [zip_keys clen.symm]; exact ndc) (zip_mem q1 q2)
  have cof : ∀ x c, (L.caps.zip cells).lookup x = some c → ∃ j, L.caps[j]? = some x ∧ cells[j]? = some c := fun x c q => by
    have hm := PySem.mem_of_lookup q
    obtain ⟨j, hj, ej⟩ := List.mem_iff_getElem.mp hm
    rw [List.getElem_zip] at ej
    cases ej
    rw [List.length_zip] at hj
    exact ⟨j, List.getElem?_eq_getElem (by omega), List.getElem?_eq_getElem (by omega)⟩
  have cin : ∀ (j : Nat) (c : Addr), cells[j]? = some c → ∃ o u dd, cs[j]? = some dd ∧ Fz H c o ∧ o.data = .cell (some u) ∧ RelV (flV dd) u ∧ (cells.zip os).lookup c = some o := fun j c q => by
    have hj : j < cells.length := (List.getElem?_eq_some_iff.mp q).1
    have q2 : cs[j]? = some cs[j] := List.getElem?_eq_getElem (by omega)
    obtain ⟨o, u, z1, z2, z3, z4⟩ := e4 j c _ q q2
    have q3 : os[j]? = some os[j] := List.getElem?_eq_getElem (by omega)
    have hm := zip_mem q q3
    have z5 := zip_lookup cnd hm
    have z6 := (e3 _ hm).1
    unfold Fz at z6
    dsimp only at z6 z5
    have z1' := z1
    unfold Fz at z1'
    rw [z6] at z1'
    injection z1' with z1'
    injection z1' with z1'
    exact ⟨o, u, _, q2, z1, z2, z3, by rw [z5, z1']⟩
  -- the frame
  have I : Inv (cxL P w K mg base L a (.ref c') (L.caps.zip cells) A outer s (delF H (cells.zip os))) [] (L2.start (L.ps ++ L.caps) (vs ++ cs.map flV)) (delF H (cells.zip os)) { s with heap := h₁, toks := s.toks + (L.ps.zip us).length } := by
    have noA : ∀ b : Addr, b ∉ (cxL P w K mg base L a (.ref c') (L.caps.zip cells) A outer s (delF H (cells.zip os))).ex := fun b z => absurd (show b ∈ ([] : List Addr) from z) (by simp)
    refine ⟨⟨e0.mod, lo.kind, rfl, rfl, Nat.le_refl _, fun x y c q1 q2 => ?_, fun x hx => ?_, fun x c q => (nomatch q), fun _ => hr.hd, Around.frames_deeper e0.frames, .inr ⟨rfl, rfl⟩, fun b z => absurd z (noA b), fun b o q => ⟨(e0.bs b o q).1, delF_none (e0.bs b o q).2⟩, e0.bsz, fun b _ _ => noA b, fun b z => absurd z (noA b), e0.funs, fun b hb => delF_none (e0.frf b hb)⟩,
      rfl, e0.bare, Un.kept hk₁, ⟨_, hns, fun i x v q1 q2 q3 => ?_⟩, fun x c q => ?_, hok0.fresh (Nat.le_refl _), fun x c q => ?_, fun p hp => absurd (show p ∈ ([] : List (Addr × Obj)) from hp) (by simp), hok0.kept hk₁, ?_⟩
    · obtain ⟨i, a1, a2⟩ := cof x c q1
      obtain ⟨j, b1, b2⟩ := cof y c q2
      have : i = j := by
        obtain ⟨h1, h2⟩ := List.getElem?_eq_some_iff.mp a2
        obtain ⟨h3, h4⟩ := List.getElem?_eq_some_iff.mp b2
        exact (List.getElem_inj cnd).mp (h2.trans h4.symm)
      subst this
      rw [a1] at b1
      cases b1
      rfl
    · have hx : L.scope.names.lookup x = some .cell ∨ L.scope.names.lookup x = some .free := hx
      rcases hx with hx | hx
      · exact absurd rfl (lo.nocell _ (PySem.mem_of_lookup hx))
      · have hm := lo.frees _ (PySem.mem_of_lookup hx) rfl
        obtain ⟨j, hj, ej⟩ := List.mem_iff_getElem.mp hm
        dsimp only at ej
        exact ⟨cells[j]'(by omega), clk j x _ (by rw [← ej]; exact List.getElem?_eq_getElem hj) (List.getElem?_eq_getElem (by omega))⟩
    · have hi : i < (vs ++ cs.map flV).length := by
        unfold L2.start at q2
        by_cases hi : i < (vs ++ cs.map flV).length
        · exact hi
        · rw [List.getElem?_append_right (by rw [List.length_map]; omega), List.getElem?_replicate] at q2
          split at q2 <;> cases q2
      have hv' : (vs ++ cs.map flV)[i]? = some v := by
        unfold L2.start at q2
        rw [List.getElem?_append_left (by rw [List.length_map]; exact hi), List.getElem?_map] at q2
        cases e : (vs ++ cs.map flV)[i]? with
        | none => rw [e] at q2; cases q2
        | some a => rw [e] at q2; cases q2; rfl
      have q1 : (L.ps ++ L.caps)[i]? = some x := q1
      by_cases hp : i < L.ps.length
      · rw [List.getElem?_append_left hp] at q1
        rw [List.getElem?_append_left (by omega)] at hv'
        obtain ⟨u, hu, ru⟩ := rv.get hv'
        refine ⟨u, ru, .inl ⟨lo.ploc x (List.mem_of_getElem? q1), ?_⟩⟩
        exact key_lookup (by rw [List.map_reverse, zip_keys lus.symm]; exact List.pairwise_reverse.mpr (ndp.imp fun z => Ne.symm z)) (List.mem_reverse.mpr (zip_mem q1 hu))
      · rw [List.getElem?_append_right (by omega)] at q1
        rw [List.getElem?_append_right (by omega), List.getElem?_map, lvs] at hv'
        have hj : i - L.ps.length < L.caps.length := (List.getElem?_eq_some_iff.mp q1).1
        have hc : cells[i - L.ps.length]? = some (cells[i - L.ps.length]'(by omega)) := List.getElem?_eq_getElem (by omega)
        obtain ⟨o, u, dd, x1, x2, x3, x4, x5⟩ := cin _ _ hc
        rw [x1] at hv'
        cases hv'
        exact ⟨u, x4, .inr ⟨.inr (lo.cfree x (List.mem_of_getElem? q1)), _, clk _ x _ q1 hc, o, hk₁ _ _ (hgo x2), x3⟩⟩
    · obtain ⟨j, a1, a2⟩ := cof x c q
      obtain ⟨o, u, dd, x1, x2, x3, x4, x5⟩ := cin _ _ a2
      exact ⟨_, o, hk₁ _ _ (hgo x2), x3⟩
    · obtain ⟨j, a1, a2⟩ := cof x c q
      obtain ⟨o, u, dd, x1, x2, x3, x4, x5⟩ := cin _ _ a2
      exact delF_in x5
    · unfold L2.start
      show _ = (L.ps ++ L.caps).length
      rw [List.length_append, List.length_map, List.length_replicate]
      have : (vs ++ cs.map flV).length = (L.ps ++ L.caps).length := by rw [List.length_append, List.length_append, List.length_map]; omega
      omega
  have rlc : ∀ (cs' : List D), (∀ dd ∈ cs', flat dd = true) → RelL K (delF H (cells.zip os)) F cs' (cs'.map flV) := by
    intro cs'
    induction cs' with
    | nil => intro _; exact RelL.nil
    | cons x xs ih => intro hh; exact RelL.cons (flat_self (hh x List.mem_cons_self)) (ih fun y hy => hh y (List.mem_cons_of_mem _ hy))
  have hflat : ∀ dd ∈ cs, flat dd = true := fun dd hd' => by
    obtain ⟨j, hj, ej⟩ := List.mem_iff_getElem.mp hd'
    obtain ⟨o, u, z1, z2, z3, z4⟩ := e4 j _ dd (List.getElem?_eq_getElem (by omega)) (by rw [← ej]; exact List.getElem?_eq_getElem hj)
    exact z4
  have rl2 : RelL K (delF H (cells.zip os)) F (ds ++ cs) (vs ++ cs.map flV) := RelL.append (relL_del fz0 ds vs lfl rl) (rlc cs hflat)
  have ok := start_ok (N := L.ps ++ L.caps) (fd.del fz0) tf (tabs_del tb fz0 isc) rl2 (by rw [List.length_append, List.length_append, List.length_map]; omega)
  have pe := hE a (.ref c') (L.caps.zip cells) A outer s (delF H (cells.zip os)) (hr.deeper _) [] _ _ _ (fun v H' => ∃ F', Ok K ⟨delF H (cells.zip os), fun b => F b ∧ ((∃ xs, delF H (cells.zip os) b = some (.lst xs)) ∨ ∃ φ, delF H (cells.zip os) b = some (.ext φ))⟩ F' (L2.start (L.ps ++ L.caps) (vs ++ cs.map flV)) H' δ' ∧ Rel K H' F' d v) I
    ⟨_, F, _, d, δ', ok, ev, fun v H' F' st sm ok' r => ⟨F', ok', by rw [np0] at r; exact r⟩⟩
  refine PySem.W.kla_codeExpr (wpAny_mono pe (fun u s' hp => ?_) fun e s' hp => hp.elim)
  obtain ⟨v, H', J, rv', F', ok', r'⟩ := hp
  have un := J.base
  have bz : ∀ b o, (cells.zip os).lookup b = some o → s.heap.get? b = some o ∧ b ∉ frs outer := fun b o q => ⟨hgo (fz0 b o q), fun z => by have y := fz0 b o q; rw [e0.frf b z] at y; cases y⟩
  have c0 : Un0 H' s'.heap (cells.zip os) := fun b o q => ⟨un.free b o (bz b o q).1 (delF_in q) (by intro z; exact absurd (show b ∈ ([] : List Addr) from z) (by simp)), un.keep b o (bz b o q).1 (delF_in q) (bz b o q).2 (by intro z; exact absurd (show b ∈ ([] : List Addr) from z) (by simp))⟩
  have sim : Sim H (addF H' (cells.zip os)) := sim_add fz0 ok'.same
  refine ⟨v, addF H' (cells.zip os), J.os, J.bare, Un.add fz0 un c0, HOk.add J.hok c0, rv', post v _ sim (ok'.tabs.keep fun b o _ z => c0.same b o z) ?_⟩
  exact Rel.free (fd.sim sim) d v lfd (Rel.step (G := g0) ok'.fd (Step.of_same c0.same) d v r')
end PP
end
section
namespace PP
open PySem L2 PyProof.Rows
variable [Tbs]
set_option genInjectivity false in
structure Mkr (K : PySem.W.Frag) (cf : List (Str × List Str)) (gn : List Str) (fd : Fd) (st : Stmt) (fdd : FuncData) where
  f : Nat
  es : Es
  k : Nat
  caps : List Nat
  x : Str
  ps : List Str
  y : Expr
  ys : List Expr
  p : Pos
  lp : Pos
  pos : Pos
  rp : Pos
  L : Lam
  c : Addr
  P : Addr
  cells : Addr → List Addr
  body : fd.body = .cons (.retL f es k caps) .nil
  text : defBody st = [.Return (some (.Call (.Name x p) (y :: (ys ++ [.Lambda L.params L.body L.scope lp])) [] pos)) rp]
  lam : Tbs.lams.lookup k = some L
  args : ckEs ⟨fd.ps ++ fd.loc, defScope st, cf, gn⟩ es (y :: ys) = true
  npk : noPk es = true
  fn : cf[f]? = some (x, ps)
  gl : globIs ⟨fd.ps ++ fd.loc, defScope st, cf, gn⟩ x = true
  nd : L.caps.Nodup
  dft : ∀ env, defaultsOf L.params env = ([], [])
  cl : ∀ (l a : Addr) (cd : Value), closureFor L.scope (envOfC fd.name (defScope st) l a cd) = pure (L.caps.zip (cells l))
  cp : ∀ (X : Cx) (l a : Addr) (cd : Value), X.N = fd.ps ++ fd.loc → X.env = envOfC fd.name (defScope st) l a cd → CapsOk X caps L.caps (cells l)
  code : fdd.code = .ref c
  hd : PySem.W.codeHdIn K c P = true
  tb : (P, L.qual) ∈ Tbs.ts
  un : ∀ t ∈ Tbs.ts, t.1 = P → t.2 = L.qual
  ql : fd.name ++ ".<locals>." ++ "<lambda>" = L.qual
structure Dn (K : PySem.W.Frag) (mg : Str → Option Value) (cf : List (Str × List Str)) (gn : List Str) (fd : Fd) (st : Stmt) (a : Addr) (fdd : FuncData) : Prop where
  fn : Fun K fd.name fd.name st a fdd
  mg : mg fd.name = some (.ref a)
  sc : FnScope (fd.ps ++ fd.loc) fd.ps (defScope st)
  ck : ckSs ⟨fd.ps ++ fd.loc, defScope st, cf, gn⟩ fd.body (defBody st) = true ∨ Nonempty (Mkr K cf gn fd st fdd)
  bd : Binds K fdd fd.ps []
noncomputable def allDn (K : PySem.W.Frag) (mg : Str → Option Value) (cf : List (Str × List Str)) (gn : List Str) : List Fd → Prop
  | [] => True
  | fd :: r => (∃ st a fdd, Dn K mg cf gn fd st a fdd) ∧ allDn K mg cf gn r
theorem allDn_get {K : PySem.W.Frag} {mg : Str → Option Value} {cf : List (Str × List Str)} {gn : List Str} : ∀ {G : List Fd} {i : Nat} {fd : Fd}, allDn K mg cf gn G → G[i]? = some fd → ∃ st a fdd, Dn K mg cf gn fd st a fdd
  | [], _, _, _, e => by simp at e
  | f :: r, 0, fd, h, e => by
    cases e
    exact h.1
  | f :: r, i + 1, fd, h, e => allDn_get (i := i) h.2 (by simpa using e)
noncomputable def cfOf (G : List Fd) : List (Str × List Str) := G.map fun fd => (fd.name, fd.ps)
structure Ln (G Gd : List Fd) (gn : List Str) (k : Nat) (L : Lam) : Prop where
  ok : LamOk L
  fd : ∃ fd e, G[k]? = some fd ∧ fd.ps = L.ps ++ L.caps ∧ fd.loc = [] ∧ fd.body = .cons (.ret e) .nil ∧ fd.hf = false ∧ isPk e = false ∧ ckE ⟨L.ps ++ L.caps, L.scope, cfOf Gd, gn⟩ e L.body = true
structure Top (K : PySem.W.Frag) (mg : Str → Option Value) (G Gd : List Fd) (gl : List D) (gn : List Str) : Prop where
  fns : allDn K mg (cfOf Gd) gn Gd
  sub : ∀ (i : Nat) (fd : Fd), Gd[i]? = some fd → G[i]? = some fd
  few : G.length ≤ own0
  lams : ∀ (k : Nat) (L : Lam), Tbs.lams.lookup k = some L → Ln G Gd gn k L
  blt : ∀ x, x ∈ bltNames → mg x = none
  glob : ∀ (g : Nat) (x : Str) (d : D), gn[g]? = some x → gl[g]? = some d → ∃ u v, mg x = some u ∧ RelV v u ∧ ∀ H F, Rel K H F d v
  gsome : ∀ (g : Nat) (x : Str), gn[g]? = some x → ∃ d, gl[g]? = some d
theorem start_okF {K : PySem.W.Frag} {H : Hp} {F : Addr → Prop} {ds : List D} {vs : List V} {N : List Str} {k : Nat} {cs : List D} {a : Addr} (fd : FD F H) (tf : TF F) (tb : Tabs H) (r : RelL K H F ds vs) (fv : FnV H k cs a) (hl : vs.length + 1 ≤ N.length) : Ok K ⟨H, fun b => F b ∧ ((∃ xs, H b = some (.lst xs)) ∨ ∃ φ, H b = some (.ext φ))⟩ F (L2.start N (vs ++ [.ref a])) H (initF N.length ds k cs) := by
  have hlen := r.length
  have low : ∀ (i : Nat) (s : Sl), (initF N.length ds k cs)[i]? = some s → s = .no ∨ (∃ d, ds[i]? = some d ∧ s = .val d) ∨ (i = ds.length ∧ s = .fnc k cs) := fun i s e => by
    unfold initF at e
    by_cases hi : i < ds.length
    · rw [List.getElem?_append_left (by simpa using hi), List.getElem?_map, List.getElem?_eq_getElem hi] at e
      cases e
      exact .inr (.inl ⟨_, List.getElem?_eq_getElem hi, rfl⟩)
    · rw [List.getElem?_append_right (by simp; omega), List.length_map] at e
      cases q : i - ds.length with
      | zero =>
        rw [q] at e
        cases e
        exact .inr (.inr ⟨by omega, rfl⟩)
      | succ m =>
        rw [q, List.getElem?_cons_succ, List.getElem?_replicate] at e
        split at e
        · cases e; exact .inl rfl
        · cases e
  have at_ : ∀ (i : Nat) (v : V), (vs ++ [.ref a])[i]? = some v → (L2.start N (vs ++ [.ref a]))[i]? = some (some v) := fun i v e => by
    unfold L2.start
    have hi : i < (vs ++ [V.ref a]).length := (List.getElem?_eq_some_iff.mp e).1
    rw [List.getElem?_append_left (by rw [List.length_map]; exact hi), List.getElem?_map, e]
    rfl
  refine ⟨Sim.refl H, fd, fun b z => z.1, fun b z => z.2, tf, tb, ?_, fun i s e => ?_, fun i j es fs b e1 => ?_⟩
  · unfold initF L2.start
    simp only [List.length_append, List.length_map, List.length_replicate, List.length_cons, List.length_nil]
    omega
  · rcases low i s e with rfl | ⟨d, e1, rfl⟩ | ⟨rfl, rfl⟩
    · trivial
    · obtain ⟨v, hv, rv⟩ := r.get e1
      exact ⟨v, at_ i v (by rw [List.getElem?_append_left (List.getElem?_eq_some_iff.mp hv).1]; exact hv), rv⟩
    · exact ⟨a, at_ _ _ (by rw [← hlen, List.getElem?_append_right (Nat.le_refl _), Nat.sub_self]; rfl), fv⟩
  · rcases low i _ e1 with z | ⟨d, _, z⟩ | ⟨_, z⟩ <;> cases z
theorem okC {P : Program} {w : World} {K : PySem.W.Frag} {mg : Str → Option Value} {base : Heap} {x qual : Str} {st : Stmt} {f : Addr} {fd : FuncData} {N ps : List Str} {k : Nat} {sp : Sp} (F : Fun K x qual st f fd) (S : FnScope N ps (defScope st)) (len : ∀ vs H Q E, sp vs H Q E → vs.length = ps.length)
    (hbody : ∀ (A : Around) (outer : List Env) (s : Shared) (H : Hp) (vs : List V) (Q : VK) (E : XK), Room k (A.deeper (envOfC qual (defScope st) s.heap.objs.size f fd.code)) → sp vs H Q E →
      ∃ t, PSs (cxOf CX0 P w K mg base N qual (defScope st) f fd.code A outer s H E).nox (defBody st) t ∧ t { nx := fun _ H' => Q .non H', rt := Q } (L2.start N vs) H) : FnOk P w K mg base CX0 (k + 1) f fd ps sp := by
  obtain ⟨oc, od, kV, doc, pm, an, cdv, ct, osl, rfl, lk, hcd⟩ := F.ex
  refine fn_of lk hcd S len fun A outer s H vs Q E hr hsp => ?_
  obtain ⟨t, h, q⟩ := hbody A outer s H vs Q E hr hsp
  exact ⟨t, h.nox, q⟩
section
variable {P : Program} {w : World} {K : PySem.W.Frag} {mg : Str → Option Value} {base : Heap} {G Gd : List Fd} {gl : List D} {gn : List Str}
noncomputable def BM (mg : Str → Option Value) (base : Heap) : Prop := ∃ bm ob, mg "__builtins__" = some (.ref bm) ∧ bm ≠ builtinsNs ∧ base.get? bm = some ob ∧ ob.cls = .type "module" ∧ ob.dict = some builtinsNs ∧ ob.data = .plain
theorem run_inv {n i : Nat} {fd : Fd} (e : G[i]? = some fd) {ds : List D} {d : D} (h : run G gl (n + 1) i ds = some d) : ds.length = fd.ps.length ∧ ∃ δ, entry fd.hf (fd.ps ++ fd.loc).length ds = some δ ∧ outD (evSs ⟨run G gl n, gl, hfs G⟩ fd.body δ) = some d := by
  unfold run at h
  rw [e] at h
  dsimp only at h
  split at h
  · cases q : entry fd.hf (fd.ps ++ fd.loc).length ds with
    | none => rw [q] at h; cases h
    | some δ => rw [q] at h; exact ⟨‹_›, δ, rfl, h⟩
  · cases h
theorem own_inv {n i : Nat} {fd : Fd} (few : G.length ≤ own0) (e : G[i]? = some fd) {ds : List D} {d : D} (h : run G gl (n + 1) (i + own0) ds = some d) : ds.length = fd.ps.length ∧ ∃ δ, entry fd.hf (fd.ps ++ fd.loc).length ds = some δ ∧ ownD (evSs ⟨run G gl n, gl, hfs G⟩ fd.body δ) = some d := by
  unfold run at h
  rw [List.getElem?_eq_none (by omega)] at h
  dsimp only at h
  rw [Nat.add_sub_cancel, e] at h
  dsimp only at h
  split at h
  · cases q : entry fd.hf (fd.ps ++ fd.loc).length ds with
    | none => rw [q] at h; cases h
    | some δ => rw [q] at h; exact ⟨(‹_ ∧ _›).2, δ, rfl, h⟩
  · cases h
theorem nofn_last {H : Hp} {F : Addr → Prop} {ds : List D} {vs : List V} (r : RelL K H F ds vs) {k : Nat} {cs : List D} (e : ds.getLast? = some (.fn k cs)) : False := by
  rw [List.getLast?_eq_getElem?] at e
  obtain ⟨v, _, rv⟩ := r.get e
  unfold Rel at rv
  exact rv
theorem all_ok (T : Top K mg G Gd gl gn) (hK : K.In base) (hB : BM mg base) : ∀ n : Nat, (∀ (i : Nat) (fd : Fd) (st : Stmt) (a : Addr) (fdd : FuncData), Gd[i]? = some fd → Dn K mg (cfOf Gd) gn fd st a fdd →
      FnOk P w K mg base CX0 n a fdd fd.ps (spF K (run G gl n i)) ∧ (fd.hf = true → FnOk P w K mg base CX0 n a fdd fd.ps (spFF K (run G gl n i))) ∧ FnOk P w K mg base CX0 n a fdd fd.ps (spO K (run G gl n (i + own0)))) ∧
    ∀ (k : Nat) (L : Lam), Tbs.lams.lookup k = some L → LmOk P w K mg base n k (run G gl n k)
  | 0 => by
    have z : ∀ i ds d, run G gl 0 i ds ≠ some d := fun i ds d h => by unfold run at h; cases h
    refine ⟨fun i fd st a fdd e _ => ⟨⟨fun vs H Q E h => ?_, fun A outer s H args us vs Q E _ _ _ _ h => ?_⟩, fun _ => ⟨fun vs H Q E h => ?_, fun A outer s H args us vs Q E _ _ _ _ h => ?_⟩, ⟨fun vs H Q E h => ?_, fun A outer s H args us vs Q E _ _ _ _ h => ?_⟩⟩, fun k L _ A outer s H a us vs cs Q _ _ _ _ h => ?_⟩
    · obtain ⟨F, ds, d, _, _, _, _, h1, _⟩ := h; exact (z _ _ _ h1).elim
    · obtain ⟨F, ds, d, _, _, _, _, h1, _⟩ := h; exact (z _ _ _ h1).elim
    · obtain ⟨F, ds, ws, k, cs, a, d, _, _, _, _, _, _, h1, _⟩ := h; exact (z _ _ _ h1).elim
    · obtain ⟨F, ds, ws, k, cs, a, d, _, _, _, _, _, _, h1, _⟩ := h; exact (z _ _ _ h1).elim
    · obtain ⟨F, ds, d, _, _, _, _, h1, _⟩ := h; exact (z _ _ _ h1).elim
    · obtain ⟨F, ds, d, _, _, _, _, h1, _⟩ := h; exact (z _ _ _ h1).elim
    · obtain ⟨F, ds, d, _, _, _, _, _, h1, _⟩ := h; exact (z _ _ _ h1).elim
  | n + 1 => by
    obtain ⟨ih, il⟩ := all_ok T hK hB n
    have fns : ∀ (f : Nat) (x : Str) (ps : List Str), (cfOf Gd)[f]? = some (x, ps) → ∃ gd st a fdd, gd.name = x ∧ gd.ps = ps ∧ Gd[f]? = some gd ∧ Dn K mg (cfOf Gd) gn gd st a fdd := fun f x ps hf => by
      have hf' : (Gd.map fun fd => (fd.name, fd.ps))[f]? = some (x, ps) := hf
      rw [List.getElem?_map, Option.map_eq_some_iff] at hf'
      obtain ⟨gd, eg, ep⟩ := hf'
      cases ep
      obtain ⟨st', a', fdd', D'⟩ := allDn_get T.fns eg
      exact ⟨gd, st', a', fdd', rfl, rfl, eg, D'⟩
    have fn1 : ∀ (f : Nat) (x : Str) (ps : List Str), (cfOf Gd)[f]? = some (x, ps) → ∃ a fd, mg x = some (.ref a) ∧ PySem.W.keepIn K (.ref a) = true ∧ Binds K fd ps [] ∧ FnOk P w K mg base CX0 n a fd ps (spF K (run G gl n f)) := fun f x ps hf => by
      obtain ⟨gd, st, a, fdd, rfl, rfl, eg, D'⟩ := fns f x ps hf
      exact ⟨a, fdd, D'.mg, D'.fn.kp, D'.bd, (ih f gd st a fdd eg D').1⟩
    have fn2 : ∀ (f : Nat) (x : Str) (ps : List Str), (cfOf Gd)[f]? = some (x, ps) → hfs G f = true → ∃ a fd, mg x = some (.ref a) ∧ PySem.W.keepIn K (.ref a) = true ∧ Binds K fd ps [] ∧ FnOk P w K mg base CX0 n a fd ps (spFF K (run G gl n f)) := fun f x ps hf hh => by
      obtain ⟨gd, st, a, fdd, rfl, rfl, eg, D'⟩ := fns f x ps hf
      refine ⟨a, fdd, D'.mg, D'.fn.kp, D'.bd, (ih f gd st a fdd eg D').2.1 ?_⟩
      unfold hfs at hh
      rw [T.sub f gd eg] at hh
      exact hh
    have fn3 : ∀ (f : Nat) (x : Str) (ps : List Str), (cfOf Gd)[f]? = some (x, ps) → ∃ a fd, mg x = some (.ref a) ∧ PySem.W.keepIn K (.ref a) = true ∧ Binds K fd ps [] ∧ FnOk P w K mg base CX0 n a fd ps (spO K (run G gl n (f + own0))) := fun f x ps hf => by
      obtain ⟨gd, st, a, fdd, rfl, rfl, eg, D'⟩ := fns f x ps hf
      exact ⟨a, fdd, D'.mg, D'.fn.kp, D'.bd, (ih f gd st a fdd eg D').2.2⟩
    have lm1 : ∀ (m : Nat) (cs : List D) (H : Hp) (a : Addr), FnV H m cs a → LmOk P w K mg base n m (run G gl n m) := fun m cs H a fv => by
      obtain ⟨L, _, _, _, _, _, _, _, hL, _⟩ := fv
      exact il m L hL
    refine ⟨fun i fd st a fdd e Dd => ?_, fun k L hL => ?_⟩
    · have eG := T.sub i fd e
      have C : ∀ (A : Around) (outer : List Env) (s : Shared) (H : Hp) (E : XK), Room n (A.deeper (envOfC fd.name (defScope st) s.heap.objs.size a fdd.code)) →
          Cok (cxOf CX0 P w K mg base (fd.ps ++ fd.loc) fd.name (defScope st) a fdd.code A outer s H E).nox ⟨fd.ps ++ fd.loc, defScope st, cfOf Gd, gn⟩ ⟨run G gl n, gl, hfs G⟩ n := fun A outer s H E hr =>
        ⟨rfl, Dd.sc.nd, fun x hx => hx, fun x hx => hx, fun x hx => ⟨hx, .inl rfl⟩, fun x hx => hx, rfl, rfl, hr, fn1, fn2, fn3, lm1, T.blt, T.glob, T.gsome⟩
      have B : ∀ (A : Around) (outer : List Env) (s : Shared) (H : Hp) (E : XK), Room n (A.deeper (envOfC fd.name (defScope st) s.heap.objs.size a fdd.code)) →
          PSs (cxOf CX0 P w K mg base (fd.ps ++ fd.loc) fd.name (defScope st) a fdd.code A outer s H E).nox (defBody st) (tS K (evSs ⟨run G gl n, gl, hfs G⟩ fd.body)) := fun A outer s H E hr => by
        rcases Dd.ck with ck | M'
        · have hblk : (cxOf CX0 P w K mg base (fd.ps ++ fd.loc) fd.name (defScope st) a fdd.code A outer s H E).nox.env.blockKind = .function := by
            unfold Env.blockKind
            show (if (defScope st).kind.isAnnotationScope then ScopeKind.function else (defScope st).kind) = _
            rw [Dd.sc.kind]
            rfl
          exact sndSs (cx := ⟨run G gl n, gl, hfs G⟩) (C A outer s H E hr) rfl hblk fd.body (defBody st) ck
        · cases M' with
          | intro M =>
          rw [M.text, M.body]
          have args := M.args
          have Cc := C A outer s H E hr
          refine sndS_cons (snd_retL (P := M.P) (cells := M.cells s.heap.objs.size) Cc M.lam ⟨⟨M.c, M.code, PySem.W.codeHd_of_K hK M.hd⟩, M.ql, M.tb, M.un, hB⟩ (M.cl _ _ _) (M.dft _) (M.cp _ _ _ _ rfl rfl) M.nd (fun _ => rfl) M.npk M.fn M.gl (fun z tz hz hs => sndEsL M.es _ _ (M.y :: M.ys) z tz Cc args (noPk_ok M.npk) hz hs) (fun z => ?_) fun z hz => ?_) sndS_nil
          · obtain ⟨_, _, _, a1, _⟩ := ckEs_cons args
            exact head_star (ck_head a1) _ _
          · obtain ⟨_, _, _, _, a2⟩ := ckEs_cons args
            exact star_anyL hz a2
      have fin : ∀ {F : Addr → Prop} {H : Hp} {σ : L2.St} {δ : Loc} {d : D} {Q : VK} {E : XK} (hfd : FD F H) (htf : TF F) (ok : Ok K ⟨H, fun b => F b ∧ ((∃ xs, H b = some (.lst xs)) ∨ ∃ φ, H b = some (.ext φ))⟩ F σ H δ) (h2 : outD (evSs ⟨run G gl n, gl, hfs G⟩ fd.body δ) = some d) (q : ∀ v H', Sim H H' → Tabs H' → Rel K H' F d v → Q v H'),
          tS K (evSs ⟨run G gl n, gl, hfs G⟩ fd.body) { nx := fun _ H' => Q .non H', rt := Q } σ H := fun {F H σ δ d Q E} hfd htf ok h2 q => by
        cases eo : evSs ⟨run G gl n, gl, hfs G⟩ fd.body δ with
        | none => rw [eo] at h2; cases h2
        | some o =>
          rw [eo] at h2
          refine ⟨⟨H, fun b => F b ∧ ((∃ xs, H b = some (.lst xs)) ∨ ∃ φ, H b = some (.ext φ))⟩, F, _, o, ok, eo, ?_⟩
          cases o with
          | nx δ =>
            cases h2
            exact fun σ' H' F' st' ok' => q .non H' ok'.same ok'.tabs rel_non
          | rt d' δ =>
            cases h2
            refine fun v σ' H' F' st' ok' r' => q v H' ok'.same ok'.tabs (Rel.step (G := g0) ok'.fd ⟨fun _ _ _ e _ => e, fun b z => ?_, fun _ _ r _ _ => r.elim, fun _ ps e => ⟨ps, e⟩⟩ _ v r')
            rcases hfd b z with ⟨xs, e⟩ | ⟨ps, e, t, ht, eb⟩ | ⟨φ, e⟩
            · exact .inl (ok'.rf b ⟨z, .inl ⟨xs, e⟩⟩)
            · rw [← eb]; exact .inl (ok'.tf t ht)
            · exact .inl (ok'.rf b ⟨z, .inr ⟨φ, e⟩⟩)
          | ro ds' δ =>
            cases h2
            refine fun a xs σ' H' F' st' ok' f1 f2 hs r' => q _ H' ok'.same ok'.tabs ?_
            have gr : ∀ b, F b → F' b := fun b z => by
              rcases hfd b z with ⟨xs, e⟩ | ⟨ps, e, t, ht, eb⟩ | ⟨φ, e⟩
              · exact ok'.rf b ⟨z, .inl ⟨xs, e⟩⟩
              · rw [← eb]; exact ok'.tf t ht
              · exact ok'.rf b ⟨z, .inr ⟨φ, e⟩⟩
            unfold Rel
            refine ⟨a, xs, rfl, .inl ⟨.inl hs, not_F hfd f2.1⟩, RelL.step (G := g0) ok'.fd ⟨fun _ _ _ e _ => e, fun b z => .inl (gr b z), fun _ _ r _ _ => r.elim, fun _ ps e => ⟨ps, e⟩⟩ _ xs r'⟩
          | bk δ => cases h2
          | ct δ => cases h2
      have fiO : ∀ {F : Addr → Prop} {H : Hp} {σ : L2.St} {δ : Loc} {zs : List D} {Q : VK} (hfd : FD F H) (htf : TF F) (ok : Ok K ⟨H, fun b => F b ∧ ((∃ xs, H b = some (.lst xs)) ∨ ∃ φ, H b = some (.ext φ))⟩ F σ H δ) (h2 : ownD (evSs ⟨run G gl n, gl, hfs G⟩ fd.body δ) = some (.lst zs)) (q : ∀ a xs H', Sim H H' → Tabs H' → H a = none → H' a = some (.lst xs) → RelL K H' (fun b => F b ∨ b = a) zs xs → Q (.ref a) H'),
          tS K (evSs ⟨run G gl n, gl, hfs G⟩ fd.body) { nx := fun _ H' => Q .non H', rt := Q } σ H := fun {F H σ δ zs Q} hfd htf ok h2 q => by
        cases eo : evSs ⟨run G gl n, gl, hfs G⟩ fd.body δ with
        | none => rw [eo] at h2; cases h2
        | some o =>
          rw [eo] at h2
          refine ⟨⟨H, fun b => F b ∧ ((∃ xs, H b = some (.lst xs)) ∨ ∃ φ, H b = some (.ext φ))⟩, F, _, o, ok, eo, ?_⟩
          cases o with
          | ro ds' δ =>
            cases h2
            refine fun a xs σ' H' F' st' ok' f1 f2 hs r' => q a xs H' ok'.same ok'.tabs f2.1 hs ?_
            have gr : ∀ b, (F b ∨ b = a) → F' b := fun b z => by
              rcases z with z | z
              · rcases hfd b z with ⟨xs, e⟩ | ⟨ps, e, t, ht, eb⟩ | ⟨φ, e⟩
                · exact ok'.rf b ⟨z, .inl ⟨xs, e⟩⟩
                · rw [← eb]; exact ok'.tf t ht
                · exact ok'.rf b ⟨z, .inr ⟨φ, e⟩⟩
              · rw [z]; exact f1
            exact RelL.step (G := g0) ok'.fd ⟨fun _ _ _ e _ => e, fun b z => .inl (gr b z), fun _ _ r _ _ => r.elim, fun _ ps e => ⟨ps, e⟩⟩ _ xs r'
          | _ => cases h2
      refine ⟨okC Dd.fn Dd.sc (fun vs H Q E h => ?_) fun A outer s H vs Q E hr h => ?_, fun hh => okC Dd.fn Dd.sc (fun vs H Q E h => ?_) fun A outer s H vs Q E hr h => ?_, okC Dd.fn Dd.sc (fun vs H Q E h => ?_) fun A outer s H vs Q E hr h => ?_⟩
      · obtain ⟨F, ds, d, _, _, _, r, h1, _⟩ := h
        rw [r.length, (run_inv eG h1).1]
      · obtain ⟨F, ds, d, hfd, htf, htb, r, h1, q⟩ := h
        obtain ⟨hl, δ, ed, h2⟩ := run_inv eG h1
        have hlen := r.length
        refine ⟨_, B A outer s H E hr, ?_⟩
        unfold entry at ed
        split at ed
        · cases ed
          exact fin (E := E) hfd htf (start_ok hfd htf htb r (by rw [hlen, hl, List.length_append]; omega)) h2 q
        · split at ed
          · rename_i eq
            exact (nofn_last r eq).elim
          · cases ed
      · obtain ⟨F, ds, ws, k, cs, b, d, _, _, _, rfl, r, _, h1, _⟩ := h
        have := (run_inv eG h1).1
        rw [List.length_append] at this ⊢
        rw [r.length]; exact this
      · obtain ⟨F, ds, ws, k, cs, b, d, hfd, htf, htb, rfl, r, fv, h1, q⟩ := h
        obtain ⟨hl, δ, ed, h2⟩ := run_inv eG h1
        have hlen := r.length
        refine ⟨_, B A outer s H E hr, ?_⟩
        rw [hh] at ed
        unfold entry at ed
        simp only [List.getLast?_concat, List.dropLast_concat] at ed
        cases ed
        rw [List.length_append] at hl
        exact fin (E := E) hfd htf (start_okF hfd htf htb r fv (by rw [hlen, List.length_append]; simp at hl; omega)) h2 q
      · obtain ⟨F, ds, zs, _, _, _, r, h1, _⟩ := h
        rw [r.length, (own_inv T.few eG h1).1]
      · obtain ⟨F, ds, zs, hfd, htf, htb, r, h1, q⟩ := h
        obtain ⟨hl, δ, ed, h2⟩ := own_inv T.few eG h1
        have hlen := r.length
        refine ⟨_, B A outer s H E hr, ?_⟩
        unfold entry at ed
        split at ed
        · cases ed
          exact fiO hfd htf (start_ok hfd htf htb r (by rw [hlen, hl, List.length_append]; omega)) h2 q
        · split at ed
          · rename_i eq
            exact (nofn_last r eq).elim
          · cases ed
    · obtain ⟨lo, fd, e, eG, ep, el, eb, eh, pk, ck⟩ := T.lams k L hL
      refine lam_ok (cx := ⟨run G gl n, gl, hfs G⟩) (e := e) hL lo (fun a cd cl A outer s H hr => ?_) pk fun ds d h1 => ?_
      · refine sndE e (cxL P w K mg base L a cd cl A outer s H) ⟨L.ps ++ L.caps, L.scope, cfOf Gd, gn⟩ L.body (k := n) ⟨rfl, lo.nd, fun x hx => hx, fun x hx => hx, fun x hx => ?_, fun x hx => hx, rfl, rfl, hr, fn1, fn2, fn3, lm1, T.blt, T.glob, T.gsome⟩ ck
        have : L.scope.names.lookup x = some .local := by
          rcases hx with hx | hx
          · exact hx
          · exact absurd rfl (lo.nocell _ (PySem.mem_of_lookup hx))
        exact ⟨.inl this, .inr this⟩
      · obtain ⟨hl, δ, ed, h2⟩ := run_inv eG h1
        rw [eh, ep, el, List.append_nil] at ed
        rw [ep] at hl
        cases ed
        rw [eb] at h2
        refine ⟨hl, ?_⟩
        simp only [evSs, evS, Option.bind_eq_bind] at h2
        cases q : evE ⟨run G gl n, gl, hfs G⟩ e (init (L.ps ++ L.caps).length ds) with
        | none => rw [q] at h2; cases h2
        | some r =>
          rw [q] at h2
          cases h2
          exact ⟨r.2, rfl⟩
end
end PP
end
section
namespace PP
open PySem L2 PyProof.Rows
variable [Tbs]
noncomputable def rxs (st : Stmt) : List Expr := match defBody st with
  | [.Return (some (.Call _ xs _ _)) _] => xs
  | _ => []
noncomputable def rps (st : Stmt) : Pos × Pos × Pos := match defBody st with
  | [.Return (some (.Call (.Name _ p) _ _ q)) r] => (p, q, r)
  | _ => (⟨0, 0, 0, 0⟩, ⟨0, 0, 0, 0⟩, ⟨0, 0, 0, 0⟩)
noncomputable def rlm (st : Stmt) : Expr := (rxs st).getLastD (.Constant .none 0 ⟨0, 0, 0, 0⟩)
noncomputable def lamA : Expr → Arguments
  | .Lambda a _ _ _ => a
  | _ => ⟨[], [], none, [], [], none, []⟩
noncomputable def lamB : Expr → Expr
  | .Lambda _ b _ _ => b
  | x => x
noncomputable def lamS : Expr → Scope
  | .Lambda _ _ s _ => s
  | _ => { kind := .function, names := [], isGenerator := false, isCoroutine := false, more := [] }
noncomputable def lamP : Expr → Pos
  | .Lambda _ _ _ p => p
  | _ => ⟨0, 0, 0, 0⟩
noncomputable def hS (a : Addr) (o : Option HO) : Hp := fun b => if b = a ∧ o.isSome = true then o else if b ∈ Tbs.ts.map (·.1) then some (.tbl #[]) else none
theorem hS_inv {a b : Addr} {o : Option HO} {u : HO} (e : hS a o b = some u) : (b = a ∧ o = some u) ∨ (b ∈ Tbs.ts.map (·.1) ∧ u = .tbl #[]) := by
  unfold hS at e
  split at e
  · rename_i h; exact .inl ⟨h.1, e⟩
  · split at e
    · cases e; exact .inr ⟨‹_›, rfl⟩
    · cases e
theorem law_run {P : Program} {w : World} {K : PySem.W.Frag} {mg mb : Str → Option Value} {fa a : Addr} {fd : FuncData} {x : Str} {f : List D → Option D} {s₁ : Shared} {vs : List Value} {ns : List Int}
    (KX : K.In s₁.heap) (hns : s₁.heap.Ns mainGlobals mg) (hb : s₁.heap.Ns builtinsNs mb) (hbb : ∀ x : Str, x ≠ "__name__" → mb x = bootBuiltins x) (hlim : s₁.heap.NoLimit) (hg : s₁.gens = #[]) (hbm : BM mg s₁.heap)
    (ha : s₁.heap.get? a = some { cls := .type "list", data := .seq vs.toArray }) (hi : IntsAre vs ns) (hl : ns.length ≤ sizeLine) (hr : Room 200 callerA)
    (ht : ∀ t ∈ Tbs.ts, s₁.heap.get? t.1 = some (PySem.W.tabObj #[]) ∧ K.lookup t.1 = none ∧ isCodeTable s₁.heap t.1)
    (F : ∀ base : Heap, K.In base → BM mg base → FnOk P w K mg base CX0 200 fa fd [x] (spF K f)) (hbind : ∀ (s : Shared) (u : Value), BindsTo s fd ⟨[u], []⟩ [(x, u)])
    (hf : f [.lst (ns.map .int)] = some (.bl true)) :
    codeAny (model P w) callerA (.call (.ref fa) ⟨[.ref a], []⟩) (fun r s' => r = .ok (.ret (.bool true)) ∧ OldK s₁.heap s'.heap ∧ s'.os = s₁.os ∧ AllBare s'.gens) s₁ := by
  have rv := vals_ints hi
  have lenV := hi.length
  have htm : ∀ b, b ∈ Tbs.ts.map (·.1) → s₁.heap.get? b = some (PySem.W.tabObj #[]) ∧ K.lookup b = none ∧ isCodeTable s₁.heap b := fun b hb => by
    obtain ⟨t, h1, h2⟩ := List.mem_map.mp hb
    rw [← h2]; exact ht t h1
  have aT : a ∉ Tbs.ts.map (·.1) := fun z => by
    have := (htm a z).1
    rw [ha] at this
    cases this
  have core : ∀ o : Option HO, (∀ u, o = some u → ∃ xs, u = .frz { cls := .type "list", data := .seq vs.toArray } (.lst xs)) → HOk P w (hS a o) s₁.heap → (o ≠ none → K.lookup a = none) → Rel K (hS a o) (fun b => b ∈ Tbs.ts.map (·.1)) (.lst (ns.map .int)) (.ref a) →
      codeAny (model P w) callerA (.call (.ref fa) ⟨[.ref a], []⟩) (fun r s' => r = .ok (.ret (.bool true)) ∧ OldK s₁.heap s'.heap ∧ s'.os = s₁.os ∧ AllBare s'.gens) s₁ := by
    intro o hO hok hK hR
    have base_of : ∀ {b : Addr} {x : Obj}, s₁.heap.get? b = some x → hS a o b = none → (hidT s₁.heap (hS a o)).get? b = some x := fun e n => hidT_get e n
    have noA : ∀ {b : Addr} {x : Obj}, s₁.heap.get? b = some x → (∀ its n, x.data ≠ .seq its n) → (∀ vs, x.data ≠ .fields vs) → hS a o b = none := fun {b x} e d1 d2 => by
      cases q : hS a o b with
      | none => rfl
      | some u =>
        rcases hS_inv q with ⟨rfl, _⟩ | ⟨z, _⟩
        · rw [ha] at e; cases e; exact absurd rfl (d1 _ _)
        · rw [(htm b z).1] at e; cases e; exact absurd rfl (d2 _)
    have nsK : ∀ {b : Addr} {m : Str → Option Value}, s₁.heap.Ns b m → (hidT s₁.heap (hS a o)).Ns b m := fun {b m} ⟨x, es, ep, e, d, r⟩ => ⟨x, es, ep, base_of e (noA e (fun _ _ z => by rw [d] at z; cases z) fun _ z => by rw [d] at z; cases z), d, r⟩
    have hKb : K.In (hidT s₁.heap (hS a o)) := fun b x e => base_of (KX b x e) (by
      cases q : hS a o b with
      | none => rfl
      | some u =>
        rcases hS_inv q with ⟨rfl, z⟩ | ⟨z, _⟩
        · rw [hK (by rw [z]; simp)] at e; cases e
        · rw [(htm b z).2.1] at e; cases e)
    have hM : Mod K mg (hidT s₁.heap (hS a o)) := ⟨hKb, nsK hns, ⟨mb, nsK hb, hbb⟩, let ⟨mc, h1, h2⟩ := hlim; ⟨mc, nsK h1, h2⟩⟩
    have hB : BM mg (hidT s₁.heap (hS a o)) := by
      obtain ⟨bm, ob, b1, b2, b3, b4, b5, b6⟩ := hbm
      exact ⟨bm, ob, b1, b2, base_of b3 (noA b3 (fun _ _ z => by rw [b6] at z; cases z) fun _ z => by rw [b6] at z; cases z), b4, b5, b6⟩
    have e0 : Env0 P w K mg (hidT s₁.heap (hS a o)) callerA [] s₁ (hS a o) := ⟨rfl, hM, fun b x e => of_hidT e, Nat.le_of_eq (hidT_size _ _), trivial, fun b hb => absurd (show b ∈ ([] : List Addr) from hb) (by simp), hok, .of_eq hg⟩
    have atT : ∀ b, b ∈ Tbs.ts.map (·.1) → hS a o b = some (.tbl #[]) := fun b z => by
      unfold hS
      rw [if_neg (fun y => aT (by rw [← y.1]; exact z)), if_pos z]
    have sp : spF K f [.ref a] (hS a o) (fun v _ => v = .bl true) E0 := ⟨fun b => b ∈ Tbs.ts.map (·.1), [.lst (ns.map .int)], .bl true, fun b z => by
        obtain ⟨t, h1, h2⟩ := List.mem_map.mp z
        exact .inr (.inl ⟨#[], atT b z, t, h1, h2⟩), fun t h => List.mem_map.mpr ⟨t, h, rfl⟩, fun t h => ⟨#[], atT _ (List.mem_map.mpr ⟨t, h, rfl⟩), trivial, fun pos cv e => by cases e⟩, RelL.one hR, hf, fun v H' _ _ r => by unfold Rel at r; exact r⟩
    refine codeAny_mono ((F _ hKb hB).run callerA [] s₁ (hS a o) ⟨[.ref a], []⟩ [.ref a] [.ref a] _ _ hr e0 (hbind s₁ (.ref a)) (.cons rfl .nil) sp) fun r s' h => ?_
    cases r with
    | error e => exact False.elim h
    | ok fl =>
      cases fl with
      | next => exact False.elim h
      | brk => exact False.elim h
      | cont => exact False.elim h
      | ret u =>
        obtain ⟨v, H', os, bare, un, hok', r', q⟩ := h
        have q' : v = .bl true := q
        subst q'
        obtain rfl : u = Value.bool true := r'
        refine ⟨rfl, ⟨fun b x e => ?_, fun b x e => un.there b x e (by simp)⟩, os, bare⟩
        cases q : hS a o b with
        | none => exact .inl (un.keep b x e q (by intro z; exact absurd (show b ∈ ([] : List Addr) from z) (by simp)) (by simp))
        | some u =>
          rcases hS_inv q with ⟨_, z⟩ | ⟨z, rfl⟩
          · obtain ⟨xs, rfl⟩ := hO u z
            have z2 := un.frzs b _ _ q
            obtain ⟨e1, _⟩ := hok b _ q
            obtain ⟨e2, _⟩ := hok' b _ z2
            rw [e] at e1; cases e1
            exact .inl e2
          · obtain ⟨more, y⟩ := un.tbls b _ q
            have e2 : s'.heap.get? b = some { cls := .none, data := .fields (#[] ++ more) } := hok' b _ y
            have e1 := (htm b z).1
            rw [e] at e1; cases e1
            exact .inr (.inl ⟨(htm b z).2.2, rfl, #[], more, rfl, e2⟩)
  have rl : ∀ (H : Hp) (F : Addr → Prop) (ms : List Int), RelL K H F (ms.map .int) (ms.map V.int) := by
    intro H F ms
    induction ms with
    | nil => exact RelL.nil
    | cons m ms ih => exact RelL.cons (rel_int m) ih
  have hok1 : ∀ o : Option HO, (∀ u, o = some u → ObjOk P w (hS a o) s₁.heap a u) → HOk P w (hS a o) s₁.heap := fun o ho b u e => by
    rcases hS_inv e with ⟨rfl, z⟩ | ⟨z, rfl⟩
    · exact ho u z
    · exact (htm b z).1
  cases hk : K.lookup a with
  | some x =>
    have e := KX a x hk
    rw [ha] at e
    cases e
    refine core none (fun u z => by cases z) (hok1 none fun u z => by cases z) (fun z => absurd rfl z) ?_
    unfold Rel
    exact ⟨a, ns.map V.int, rfl, .inr ⟨vs.toArray, _, hk, by rw [List.size_toArray, lenV]; exact hl, by simpa using rv⟩, rl _ _ ns⟩
  | none =>
    refine core (some (.frz { cls := .type "list", data := .seq vs.toArray } (.lst (ns.map V.int)))) (fun u z => ⟨_, (Option.some.inj z).symm⟩) (hok1 _ fun u z => ?_) (fun _ => hk) ?_
    · cases z
      exact ⟨ha, by rw [List.length_map]; exact hl, vs, _, rv, ha⟩
    · unfold Rel
      refine ⟨a, ns.map V.int, rfl, .inl ⟨.inr ⟨{ cls := .type "list", data := .seq vs.toArray }, ?_⟩, aT⟩, rl _ _ ns⟩
      unfold hS
      rw [if_pos ⟨rfl, rfl⟩]
theorem walk_run {l : PySem.W.OpenLaw} {q : Program} {loose : List Str} {XP : (Str → Option Value) → Heap → Prop} {YP : World → Heap → Prop} {d : DefRec} {K : Params → PySem.W.Frag} {G Gd : List Fd} {gl : List D} {gn : List Str} {i : Nat} {fd : Fd} {x : Str}
    (main : ∀ ns : List Int, ns.length ≤ 63 → run G gl 200 i [.lst (ns.map .int)] = some (.bl true)) (hi : Gd[i]? = some fd) (hp : fd.ps = [x])
    (hn : l.most = some 63) (hdf : d.params.defaults = []) (hY : ∀ (w : World) (h : Heap), YP w h → (K w.params).In h ∧ ∀ t ∈ Tbs.ts, h.get? t.1 = some (PySem.W.tabObj #[]))
    (F : ∀ (w : World) (mg : Str → Option Value) (fa : Addr) (h : Heap), (K w.params).In h → h.Ns mainGlobals mg → mg d.name = some (.ref fa) →
      ∃ (st : Stmt) (fdd : FuncData), (∀ (s : Shared) (u : Value), BindsTo s fdd ⟨[u], []⟩ [(x, u)]) ∧ Top (K w.params) mg G Gd gl gn ∧ Dn (K w.params) mg (cfOf Gd) gn fd st fa fdd ∧ ∀ t ∈ Tbs.ts, (K w.params).lookup t.1 = none ∧ ∃ c, PySem.W.codeHdIn (K w.params) c t.1 = true) :
    PySem.W.WalkO q loose XP YP l.row.toRowW d [] (fun f vs => PySem.call f vs) := by
  have hr : Room 200 callerA := ⟨rfl, by decide, by decide⟩
  refine Att.attach_call hn hdf fun w s₀ s₁ mg mb fa o pm cd doc a vs ns TT Y ho hd hcd hmg hobj hints hlen hg => ?_
  obtain ⟨KX, tabs⟩ := hY w _ Y
  obtain ⟨st, fdd, hb, T, Dd, tc⟩ := F w mg fa _ KX TT.T.g hmg
  refine law_run KX TT.T.g TT.T.b TT.T.builtins TT.T.nolimit hg TT.T.bmain hobj hints (Nat.le_trans hlen (by decide)) hr (fun t ht => ?_) (fun base hK hB => ?_) hb (main ns hlen)
  · obtain ⟨h1, c, h2⟩ := tc t ht
    exact ⟨tabs t ht, h1, ((PySem.W.codeHd_of_K KX h2).tab (tabs t ht)).isCodeTable⟩
  · have := ((all_ok (P := l.prog) (w := w) (base := base) T hK hB 200).1 i fd st fa fdd hi Dd).1
    rw [hp] at this
    exact this
section
theorem usS {α : Type} {P : List α → Prop} {k : Nat} (h : ∀ a us, us.length = k → P (a :: us)) : ∀ us, us.length = k + 1 → P us
  | [], e => by cases e
  | a :: us, e => h a us (Nat.succ.inj e)
theorem us0 {α : Type} {P : List α → Prop} (h : P []) (us : List α) (e : us.length = 0) : P us := List.length_eq_zero_iff.mp e ▸ h
variable {fd : FuncData} {ps : List Str}
theorem us1 (h : ∀ a, bindArgs fd ⟨[a], []⟩ = pure (ps.zip [a])) : ∀ us : List Value, us.length = 1 → bindArgs fd ⟨us, []⟩ = pure (ps.zip us) :=
  usS (P := fun us => bindArgs fd ⟨us, []⟩ = pure (ps.zip (us))) fun a => us0 (P := fun us => bindArgs fd ⟨a :: us, []⟩ = pure (ps.zip (a :: us))) (h a)
theorem us2 (h : ∀ a b, bindArgs fd ⟨[a, b], []⟩ = pure (ps.zip [a, b])) : ∀ us : List Value, us.length = 2 → bindArgs fd ⟨us, []⟩ = pure (ps.zip us) :=
  usS (P := fun us => bindArgs fd ⟨us, []⟩ = pure (ps.zip (us))) fun a => usS (P := fun us => bindArgs fd ⟨a :: us, []⟩ = pure (ps.zip (a :: us))) fun b => us0 (P := fun us => bindArgs fd ⟨a :: b :: us, []⟩ = pure (ps.zip (a :: b :: us))) (h a b)
theorem us3 (h : ∀ a b c, bindArgs fd ⟨[a, b, c], []⟩ = pure (ps.zip [a, b, c])) : ∀ us : List Value, us.length = 3 → bindArgs fd ⟨us, []⟩ = pure (ps.zip us) :=
  usS (P := fun us => bindArgs fd ⟨us, []⟩ = pure (ps.zip (us))) fun a => usS (P := fun us => bindArgs fd ⟨a :: us, []⟩ = pure (ps.zip (a :: us))) fun b => usS (P := fun us => bindArgs fd ⟨a :: b :: us, []⟩ = pure (ps.zip (a :: b :: us))) fun c => us0 (P := fun us => bindArgs fd ⟨a :: b :: c :: us, []⟩ = pure (ps.zip (a :: b :: c :: us))) (h a b c)
theorem us4 (h : ∀ a b c d, bindArgs fd ⟨[a, b, c, d], []⟩ = pure (ps.zip [a, b, c, d])) : ∀ us : List Value, us.length = 4 → bindArgs fd ⟨us, []⟩ = pure (ps.zip us) :=
  usS (P := fun us => bindArgs fd ⟨us, []⟩ = pure (ps.zip (us))) fun a => usS (P := fun us => bindArgs fd ⟨a :: us, []⟩ = pure (ps.zip (a :: us))) fun b => usS (P := fun us => bindArgs fd ⟨a :: b :: us, []⟩ = pure (ps.zip (a :: b :: us))) fun c => usS (P := fun us => bindArgs fd ⟨a :: b :: c :: us, []⟩ = pure (ps.zip (a :: b :: c :: us))) fun d => us0 (P := fun us => bindArgs fd ⟨a :: b :: c :: d :: us, []⟩ = pure (ps.zip (a :: b :: c :: d :: us))) (h a b c d)
end
end PP
end
section
namespace P1
open PySem L2 PP
noncomputable def top (i : Nat) : Stmt := PySem.Challenge.pw_cutless_k15_changed.main.body.getD i (.Pass ⟨0, 0, 0, 0⟩)
noncomputable def d_inside : Fd := ⟨"inside", ["A"], [],
  (.cons (.ret (.ite (.cmp .isin (.ix (.var 0) (.int 0)) (.glob 0)) (.tup .nil) (.sl (.var 0) (.yes (.int 1)) .no)))
  .nil), false⟩
noncomputable def d_with_terms : Fd := ⟨"with_terms", ["A", "depth", "change"], ["kind", "inner"],
  (.cons (.asg (.nm 3) (.ix (.var 0) (.int 0)))
  (.cons (.ifs (.cmp .eq (.var 3) (.str "word"))
  (.cons (.ret (.tup (.cons (.var 3) (.cons (.ix (.var 0) (.int 1)) (.cons (.blt .toTup (.cons (.comp 1 (.nm 5) (.sq (.ix (.var 0) (.int 2))) .no (.callv 2 (.cons (.var 5) (.cons (.var 1) .nil)))) .nil)) .nil)))))
  .nil)
  .nil)
  (.cons (.asg (.nm 4) (.ite (.cmp .isin (.var 3) (.glob 1)) (.bin .add (.var 1) (.int 1)) (.var 1)))
  (.cons (.ret (.bin .add (.tup (.cons (.var 3) .nil)) (.blt .toTup (.cons (.comp 1 (.nm 5) (.sq (.call 0 (.cons (.var 0) .nil))) .no (.callF 1 (.cons (.var 5) (.cons (.var 4) .nil)) 2)) .nil))))
  .nil)))), true⟩
noncomputable def d_renamed : Fd := ⟨"renamed", ["A", "old", "new"], [],
  (.cons (.retL 1 (.cons (.var 0) (.cons (.int 0) .nil)) 17 [1, 2])
  .nil), false⟩
noncomputable def d_kids_of : Fd := ⟨"kids_of", ["tree"], [],
  (.cons (.ret (.ite (.cmp .eq (.var 0) (.glob 2)) (.tup .nil) (.ix (.var 0) (.neg (.int 1)))))
  .nil), false⟩
noncomputable def d_changed : Fd := ⟨"changed", ["tree", "old", "new"], ["kids", "side", "A", "name"],
  (.cons (.cmp false 3 (.comp 1 (.nm 7) (.sq (.call 3 (.cons (.var 0) .nil))) .no (.call 4 (.cons (.var 7) (.cons (.var 1) (.cons (.var 2) .nil))))))
  (.cons (.ifs (.cmp .eq (.ix (.var 0) (.int 0)) (.str "rule"))
  (.cons (.asg (.tp [4, 5, 6]) (.sl (.var 0) (.yes (.int 1)) (.yes (.int 4))))
  (.cons (.ret (.tup (.cons (.str "rule") (.cons (.var 4) (.cons (.call 2 (.cons (.var 5) (.cons (.var 1) (.cons (.var 2) .nil)))) (.cons (.ite (.cmp .eq (.var 6) (.var 1)) (.var 2) (.var 6)) (.cons (.blt .toTup (.cons (.var 3) .nil)) .nil)))))))
  .nil))
  .nil)
  (.cons (.ifs (.cmp .eq (.ix (.var 0) (.int 0)) (.str "cut"))
  (.cons (.ret (.tup (.cons (.str "cut") (.cons (.call 2 (.cons (.ix (.var 0) (.int 1)) (.cons (.var 1) (.cons (.var 2) .nil)))) (.cons (.blt .toTup (.cons (.var 3) .nil)) .nil)))))
  .nil)
  .nil)
  (.cons (.ret (.var 0))
  .nil)))), false⟩
noncomputable def d_fresh : Fd := ⟨"fresh", ["names"], ["many"],
  (.cons (.asg (.nm 1) (.int 0))
  (.cons (.while_ (.cmp .isin (.fstr "n" (.var 1)) (.var 0))
  (.cons (.aug 1 .add (.int 1))
  .nil))
  (.cons (.ret (.fstr "n" (.var 1)))
  .nil))), false⟩
noncomputable def d__law_cell : Fd := ⟨"_law_cell", ["_law_script", "_law_k"], ["_law_number"],
  (.cons (.ifs (.cmp .lt (.var 1) (.blt .len (.cons (.var 0) .nil)))
  (.cons (.ret (.ix (.var 0) (.var 1)))
  .nil)
  .nil)
  (.cons (.asg (.nm 2) (.bin .add (.bin .mul (.var 1) (.int 7919)) (.int 5)))
  (.cons (.ifs (.cmp .gt (.blt .len (.cons (.var 0) .nil)) (.int 0))
  (.cons (.asg (.nm 2) (.bin .add (.bin .mod (.bin .mul (.ix (.var 0) (.bin .mod (.bin .mul (.var 1) (.int 7)) (.blt .len (.cons (.var 0) .nil)))) (.int 48271)) (.int 2147483647)) (.bin .mul (.var 1) (.int 104729))))
  .nil)
  .nil)
  (.cons (.ret (.bin .mod (.bin .mul (.var 2) (.var 2)) (.int 2147483629)))
  .nil)))), false⟩
noncomputable def d__law_name : Fd := ⟨"_law_name", ["_law_cell_here"], ["_law_letters", "_law_found", "_law_rest", "_law_k"],
  (.cons (.asg (.nm 1) (.str "abcdefghijklmnopqrstuvwxyz0123456789"))
  (.cons (.asg (.nm 2) (.ix (.var 1) (.bin .mod (.bin .fdiv (.var 0) (.int 8)) (.int 26))))
  (.cons (.asg (.nm 3) (.bin .fdiv (.var 0) (.int 208)))
  (.cons (.for_ (.nm 4) (.rng (.bin .mod (.var 0) (.int 8)))
  (.cons (.asg (.nm 2) (.bin .add (.var 2) (.ix (.var 1) (.bin .mod (.var 3) (.int 36)))))
  (.cons (.asg (.nm 3) (.bin .fdiv (.var 3) (.int 36)))
  .nil)))
  (.cons (.ret (.var 2))
  .nil))))), false⟩
noncomputable def d__law_word : Fd := ⟨"_law_word", ["_law_cell_here"], ["_law_found", "_law_rest", "_law_k"],
  (.cons (.asg (.nm 1) (.str ""))
  (.cons (.asg (.nm 2) (.bin .fdiv (.var 0) (.int 8)))
  (.cons (.for_ (.nm 3) (.rng (.bin .add (.int 1) (.bin .mod (.var 0) (.int 8))))
  (.cons (.asg (.nm 1) (.bin .add (.var 1) (.ix (.str "etaoinshrdlcumwfgypbvkjxqz") (.bin .mod (.var 2) (.int 26)))))
  (.cons (.asg (.nm 2) (.bin .fdiv (.var 2) (.int 26)))
  .nil)))
  (.cons (.ifs (.cmp .isin (.var 1) (.tup (.cons (.str "yes") (.cons (.str "no") (.cons (.str "not") (.cons (.str "and") (.cons (.str "or") (.cons (.str "if") (.cons (.str "all") (.cons (.str "some") .nil))))))))))
  (.cons (.ret (.bin .add (.var 1) (.str "s")))
  .nil)
  .nil)
  (.cons (.ret (.var 1))
  .nil))))), false⟩
noncomputable def d__law_wide : Fd := ⟨"_law_wide", ["_law_cell_here", "_law_deep", "_law_around", "_law_names"], ["_law_kind", "_law_rest", "_law_some", "_law_picks", "_law_one"],
  (.cons (.asg (.nm 4) (.ix (.lst (.cons (.str "word") (.cons (.str "not") (.cons (.str "and") (.cons (.str "or") (.cons (.str "if") (.cons (.str "all") (.cons (.str "some") (.cons (.str "yes") (.cons (.str "no") (.cons (.str "word") .nil))))))))))) (.bin .mod (.var 0) (.int 10))))
  (.cons (.asg (.nm 5) (.bin .fdiv (.var 0) (.int 10)))
  (.cons (.ifs (.or (.cmp .eq (.var 4) (.str "yes")) (.cmp .eq (.var 4) (.str "no")))
  (.cons (.ret (.tup (.cons (.var 4) .nil)))
  .nil)
  .nil)
  (.cons (.ifs (.or (.cmp .eq (.var 4) (.str "word")) (.cmp .eq (.var 1) (.int 0)))
  (.cons (.asg (.nm 6) (.bin .add (.var 3) (.comp 1 (.nm 9) (.rng (.var 2)) .no (.blt .toStr (.cons (.var 9) .nil)))))
  (.cons (.asg (.nm 7) (.lst (.cons (.bin .mod (.bin .mul (.var 5) (.int 31)) (.int 1009)) (.cons (.bin .mod (.bin .mul (.var 5) (.int 37)) (.int 1013)) (.cons (.bin .mod (.bin .mul (.var 5) (.int 41)) (.int 1019)) .nil)))))
  (.cons (.ret (.tup (.cons (.str "word") (.cons (.call 8 (.cons (.bin .fdiv (.var 5) (.int 4)) .nil)) (.cons (.blt .toTup (.cons (.comp 1 (.nm 9) (.sq (.sl (.var 7) .no (.yes (.bin .mod (.var 5) (.int 4))))) .no (.ix (.var 6) (.bin .mod (.var 9) (.blt .len (.cons (.var 6) .nil))))) .nil)) .nil)))))
  .nil)))
  .nil)
  (.cons (.ifs (.cmp .eq (.var 4) (.str "not"))
  (.cons (.ret (.tup (.cons (.str "not") (.cons (.call 9 (.cons (.var 5) (.cons (.bin .sub (.var 1) (.int 1)) (.cons (.var 2) (.cons (.var 3) .nil))))) .nil))))
  .nil)
  .nil)
  (.cons (.ifs (.or (.cmp .eq (.var 4) (.str "all")) (.cmp .eq (.var 4) (.str "some")))
  (.cons (.ret (.tup (.cons (.var 4) (.cons (.call 9 (.cons (.var 5) (.cons (.bin .sub (.var 1) (.int 1)) (.cons (.bin .add (.var 2) (.int 1)) (.cons (.var 3) .nil))))) .nil))))
  .nil)
  .nil)
  (.cons (.asg (.nm 8) (.call 9 (.cons (.bin .mod (.bin .mul (.var 5) (.int 48271)) (.int 2147483647)) (.cons (.bin .sub (.var 1) (.int 1)) (.cons (.var 2) (.cons (.var 3) .nil))))))
  (.cons (.ret (.tup (.cons (.var 4) (.cons (.var 8) (.cons (.call 9 (.cons (.bin .mod (.bin .mul (.var 5) (.int 69621)) (.int 2147483629)) (.cons (.bin .sub (.var 1) (.int 1)) (.cons (.var 2) (.cons (.var 3) .nil))))) .nil)))))
  .nil)))))))), false⟩
noncomputable def d__law_grown : Fd := ⟨"_law_grown", ["_law_script", "_law_some"], ["_law_stand", "_law_cell_here", "_law_way", "_law_s", "_law_size", "_law_kids", "_law_under", "_law_name_here", "_law_tree"],
  (.cons (.new 2 (.lst (.cons (.tup (.cons (.tup (.cons (.str "close") .nil)) (.cons (.int 1) .nil))) .nil)))
  (.cons (.for_ (.nm 3) (.sq (.sl (.var 0) .no (.yes (.int 90))))
  (.cons (.asg (.nm 4) (.bin .mod (.var 3) (.int 6)))
  (.cons (.asg (.nm 5) (.call 9 (.cons (.bin .fdiv (.var 3) (.int 36)) (.cons (.int 3) (.cons (.int 0) (.cons (.var 1) .nil))))))
  (.cons (.asg (.nm 6) (.bin .add (.int 1) (.bin .mod (.bin .fdiv (.var 3) (.int 6)) (.int 3))))
  (.cons (.ifs (.cmp .gt (.var 4) (.int 3))
  (.cons (.asg (.nm 6) (.int 2))
  .nil)
  .nil)
  (.cons (.asg (.nm 7) (.sl (.pk 2) (.yes (.neg (.var 6))) .no))
  (.cons (.ifs (.or (.cmp .eq (.var 4) (.int 0)) (.or (.cmp .lt (.blt .len (.cons (.var 7) .nil)) (.var 6)) (.cmp .gt (.blt .max (.cons (.comp 1 (.nm 11) (.sq (.var 7)) .no (.ix (.var 11) (.int 1))) .nil)) (.int 29))))
  (.cons (.append 2 (.tup (.cons (.tup (.cons (.str "close") .nil)) (.cons (.int 1) .nil))))
  .nil)
  (.cons (.new 2 (.sl (.pk 2) .no (.yes (.neg (.var 6)))))
  (.cons (.asg (.nm 8) (.blt .toTup (.cons (.comp 1 (.nm 11) (.sq (.var 7)) .no (.ix (.var 11) (.int 0))) .nil)))
  (.cons (.asg (.nm 9) (.ix (.lst (.cons (.str "") (.cons (.ix (.var 1) (.bin .mod (.bin .fdiv (.var 3) (.int 7)) (.int 4))) .nil))) (.blt .toInt (.cons (.or (.cmp .eq (.ix (.var 5) (.int 0)) (.str "all")) (.cmp .eq (.ix (.var 5) (.int 0)) (.str "some"))) .nil))))
  (.cons (.asg (.nm 10) (.tup (.cons (.str "rule") (.cons (.ix (.lst (.cons (.str "left") (.cons (.str "right") .nil))) (.bin .mod (.bin .fdiv (.var 3) (.int 18)) (.int 2))) (.cons (.var 5) (.cons (.var 9) (.cons (.var 8) .nil)))))))
  (.cons (.ifs (.cmp .gt (.var 4) (.int 3))
  (.cons (.asg (.nm 10) (.tup (.cons (.str "cut") (.cons (.var 5) (.cons (.var 8) .nil)))))
  .nil)
  .nil)
  (.cons (.append 2 (.tup (.cons (.var 10) (.cons (.bin .add (.int 1) (.blt .max (.cons (.comp 1 (.nm 11) (.sq (.var 7)) .no (.ix (.var 11) (.int 1))) .nil))) .nil))))
  .nil)))))))
  .nil)))))))
  (.cons (.ret (.comp 1 (.nm 11) (.sq (.var 2)) .no (.ix (.var 11) (.int 0))))
  .nil))), false⟩
noncomputable def d__law_renamed : Fd := ⟨"_law_renamed", ["_law_s", "_law_old", "_law_new"], ["_law_terms", "_law_term"],
  (.cons (.ifs (.cmp .eq (.ix (.var 0) (.int 0)) (.str "word"))
  (.cons (.new 3 (.lst .nil))
  (.cons (.for_ (.nm 4) (.sq (.ix (.var 0) (.int 2)))
  (.cons (.ifs (.cmp .eq (.var 4) (.var 1))
  (.cons (.asg (.nm 4) (.var 2))
  .nil)
  .nil)
  (.cons (.append 3 (.var 4))
  .nil)))
  (.cons (.ret (.tup (.cons (.str "word") (.cons (.ix (.var 0) (.int 1)) (.cons (.blt .toTup (.cons (.pk 3) .nil)) .nil)))))
  .nil)))
  .nil)
  (.cons (.ret (.bin .add (.tup (.cons (.ix (.var 0) (.int 0)) .nil)) (.blt .toTup (.cons (.comp 1 (.nm 5) (.sq (.sl (.var 0) (.yes (.int 1)) .no)) .no (.call 11 (.cons (.var 5) (.cons (.var 1) (.cons (.var 2) .nil))))) .nil))))
  .nil)), false⟩
noncomputable def d__law_is_changed : Fd := ⟨"_law_is_changed", ["_law_found", "_law_tree", "_law_old", "_law_new"], ["_law_name_here", "_law_one", "_law_kid"],
  (.cons (.ifs (.or (.not (.blt .isTup (.cons (.var 0) .nil))) (.or (.cmp .ne (.blt .len (.cons (.var 0) .nil)) (.blt .len (.cons (.var 1) .nil))) (.cmp .ne (.ix (.var 0) (.int 0)) (.ix (.var 1) (.int 0)))))
  (.cons (.ret (.bl false))
  .nil)
  .nil)
  (.cons (.ifs (.cmp .eq (.ix (.var 1) (.int 0)) (.str "close"))
  (.cons (.ret (.bl true))
  .nil)
  .nil)
  (.cons (.ifs (.cmp .ne (.ix (.var 0) (.bin .add (.neg (.int 3)) (.blt .toInt (.cons (.cmp .eq (.ix (.var 1) (.int 0)) (.str "cut")) .nil)))) (.call 11 (.cons (.ix (.var 1) (.bin .add (.neg (.int 3)) (.blt .toInt (.cons (.cmp .eq (.ix (.var 1) (.int 0)) (.str "cut")) .nil)))) (.cons (.var 2) (.cons (.var 3) .nil)))))
  (.cons (.ret (.bl false))
  .nil)
  .nil)
  (.cons (.ifs (.cmp .eq (.ix (.var 1) (.int 0)) (.str "rule"))
  (.cons (.asg (.nm 4) (.ix (.var 1) (.int 3)))
  (.cons (.ifs (.cmp .eq (.var 4) (.var 2))
  (.cons (.asg (.nm 4) (.var 3))
  .nil)
  .nil)
  (.cons (.ifs (.or (.cmp .ne (.ix (.var 0) (.int 1)) (.ix (.var 1) (.int 1))) (.cmp .ne (.ix (.var 0) (.int 3)) (.var 4)))
  (.cons (.ret (.bl false))
  .nil)
  .nil)
  .nil)))
  .nil)
  (.cons (.ifs (.or (.not (.blt .isTup (.cons (.ix (.var 0) (.neg (.int 1))) .nil))) (.cmp .ne (.blt .len (.cons (.ix (.var 0) (.neg (.int 1))) .nil)) (.blt .len (.cons (.ix (.var 1) (.neg (.int 1))) .nil))))
  (.cons (.ret (.bl false))
  .nil)
  .nil)
  (.cons (.forZ (.tp [5, 6]) (.cons (.ix (.var 0) (.neg (.int 1))) (.cons (.ix (.var 1) (.neg (.int 1))) .nil))
  (.cons (.ifs (.not (.call 12 (.cons (.var 5) (.cons (.var 6) (.cons (.var 2) (.cons (.var 3) .nil))))))
  (.cons (.ret (.bl false))
  .nil)
  .nil)
  .nil))
  (.cons (.ret (.bl true))
  .nil))))))), false⟩
noncomputable def d__law_in_statement : Fd := ⟨"_law_in_statement", ["_law_s", "_law_name_here"], ["_law_part"],
  (.cons (.ifs (.cmp .eq (.ix (.var 0) (.int 0)) (.str "word"))
  (.cons (.ret (.cmp .isin (.var 1) (.ix (.var 0) (.int 2))))
  .nil)
  .nil)
  (.cons (.for_ (.nm 2) (.sq (.sl (.var 0) (.yes (.int 1)) .no))
  (.cons (.ifs (.call 13 (.cons (.var 2) (.cons (.var 1) .nil)))
  (.cons (.ret (.bl true))
  .nil)
  .nil)
  .nil))
  (.cons (.ret (.bl false))
  .nil))), false⟩
noncomputable def d__law_has : Fd := ⟨"_law_has", ["_law_tree", "_law_name_here"], ["_law_kid"],
  (.cons (.ifs (.cmp .eq (.ix (.var 0) (.int 0)) (.str "close"))
  (.cons (.ret (.bl false))
  .nil)
  .nil)
  (.cons (.ifs (.or (.and (.cmp .eq (.ix (.var 0) (.int 0)) (.str "rule")) (.cmp .eq (.ix (.var 0) (.int 3)) (.var 1))) (.call 13 (.cons (.ix (.var 0) (.bin .add (.neg (.int 3)) (.blt .toInt (.cons (.cmp .eq (.ix (.var 0) (.int 0)) (.str "cut")) .nil)))) (.cons (.var 1) .nil))))
  (.cons (.ret (.bl true))
  .nil)
  .nil)
  (.cons (.for_ (.nm 2) (.sq (.ix (.var 0) (.neg (.int 1))))
  (.cons (.ifs (.call 14 (.cons (.var 2) (.cons (.var 1) .nil)))
  (.cons (.ret (.bl true))
  .nil)
  .nil)
  .nil))
  (.cons (.ret (.bl false))
  .nil)))), false⟩
noncomputable def d__law_fresh : Fd := ⟨"_law_fresh", ["_law_names"], ["_law_handed", "_law_found", "_law_at"],
  (.cons (.asg (.nm 1) (.blt .toLst (.cons (.var 0) .nil)))
  (.cons (.asg (.nm 2) (.call 5 (.cons (.var 1) .nil)))
  (.cons (.ifs (.or (.not (.blt .isStr (.cons (.var 2) .nil))) (.or (.cmp .ne (.var 1) (.var 0)) (.cmp .isin (.var 2) (.var 0))))
  (.cons (.ret .non)
  .nil)
  .nil)
  (.cons (.for_ (.nm 3) (.rng (.bin .add (.blt .len (.cons (.var 0) .nil)) (.int 1)))
  (.cons (.ifs (.cmp .eq (.var 2) (.bin .add (.str "n") (.blt .toStr (.cons (.var 3) .nil))))
  (.cons (.ret (.var 2))
  .nil)
  .nil)
  (.cons (.ifs (.cmp .notin (.bin .add (.str "n") (.blt .toStr (.cons (.var 3) .nil))) (.var 0))
  (.cons (.ret .non)
  .nil)
  .nil)
  .nil)))
  (.cons (.ret .non)
  .nil))))), false⟩
noncomputable def d_law : Fd := ⟨"law", ["_law_script"], ["_law_some", "_law_pool", "_law_old", "_law_new", "_law_tree", "_law_found", "_law_name_here", "_law_names", "_law_cell_here"],
  (.cons (.cmp false 1 (.comp 1 (.nm 10) (.rng (.int 4)) .no (.call 7 (.cons (.call 6 (.cons (.var 0) (.cons (.var 10) .nil))) .nil))))
  (.cons (.ifs (.cmp .eq (.bin .mod (.call 6 (.cons (.var 0) (.cons (.int 4) .nil))) (.int 3)) (.int 1))
  (.cons (.cmp false 1 (.comp 1 (.nm 10) (.rng (.int 4)) .no (.bin .add (.str "n") (.blt .toStr (.cons (.bin .mod (.call 6 (.cons (.var 0) (.cons (.var 10) .nil))) (.int 4)) .nil)))))
  .nil)
  .nil)
  (.cons (.asg (.nm 2) (.bin .add (.var 1) (.lst (.cons (.call 7 (.cons (.call 6 (.cons (.var 0) (.cons (.int 5) .nil))) .nil)) (.cons (.str "n0") .nil)))))
  (.cons (.asg (.nm 3) (.ix (.var 2) (.bin .mod (.call 6 (.cons (.var 0) (.cons (.int 6) .nil))) (.int 5))))
  (.cons (.asg (.nm 4) (.ix (.var 2) (.bin .mod (.call 6 (.cons (.var 0) (.cons (.int 7) .nil))) (.int 6))))
  (.cons (.for_ (.nm 5) (.sq (.call 10 (.cons (.var 0) (.cons (.var 1) .nil))))
  (.cons (.asg (.nm 6) (.call 4 (.cons (.var 5) (.cons (.var 3) (.cons (.var 4) .nil)))))
  (.cons (.ifs (.not (.call 12 (.cons (.var 6) (.cons (.var 5) (.cons (.var 3) (.cons (.var 4) .nil))))))
  (.cons (.ret (.bl false))
  .nil)
  .nil)
  (.cons (.ifs (.and (.not (.call 14 (.cons (.var 5) (.cons (.var 4) .nil)))) (.cmp .ne (.call 4 (.cons (.var 6) (.cons (.var 4) (.cons (.var 3) .nil)))) (.var 5)))
  (.cons (.ret (.bl false))
  .nil)
  .nil)
  (.cons (.asg (.nm 7) (.call 15 (.cons (.comp 1 (.nm 10) (.sq (.var 1)) (.yes (.call 14 (.cons (.var 5) (.cons (.var 10) .nil)))) (.var 10)) .nil)))
  (.cons (.ifs (.or (.cmp .is (.var 7) .non) (.cmp .ne (.call 4 (.cons (.call 4 (.cons (.var 5) (.cons (.var 3) (.cons (.var 7) .nil)))) (.cons (.var 7) (.cons (.var 3) .nil)))) (.var 5)))
  (.cons (.ret (.bl false))
  .nil)
  .nil)
  .nil))))))
  (.cons (.new 8 (.lst .nil))
  (.cons (.for_ (.nm 9) (.sq (.sl (.var 0) .no (.yes (.int 90))))
  (.cons (.append 8 (.ix (.lst (.cons (.bin .add (.str "n") (.blt .toStr (.cons (.bin .mod (.bin .fdiv (.var 9) (.int 5)) (.int 40)) .nil))) (.cons (.bin .add (.str "n") (.blt .toStr (.cons (.blt .len (.cons (.pk 8) .nil)) .nil))) (.cons (.call 7 (.cons (.bin .fdiv (.var 9) (.int 5)) .nil)) .nil)))) (.bin .fdiv (.bin .mod (.var 9) (.int 5)) (.int 2))))
  .nil))
  (.cons (.ret (.and (.cmp .isnot (.call 15 (.cons (.var 8) .nil)) .non) (.cmp .isnot (.call 15 (.cons (.var 2) .nil)) .non)))
  .nil))))))))), false⟩
noncomputable def d_lam0 : Fd := ⟨"renamed.<locals>.<lambda>", ["term", "depth", "old", "new"], [],
  (.cons (.ret (.ite (.cmp .eq (.var 0) (.var 2)) (.var 3) (.var 0))) .nil), false⟩
noncomputable def Gd : List Fd := [d_inside, d_with_terms, d_renamed, d_kids_of, d_changed, d_fresh, d__law_cell, d__law_name, d__law_word, d__law_wide, d__law_grown, d__law_renamed, d__law_is_changed, d__law_in_statement, d__law_has, d__law_fresh, d_law]
noncomputable def Gs : List Fd := [d_inside, d_with_terms, d_renamed, d_kids_of, d_changed, d_fresh, d__law_cell, d__law_name, d__law_word, d__law_wide, d__law_grown, d__law_renamed, d__law_is_changed, d__law_in_statement, d__law_has, d__law_fresh, d_law, d_lam0]
noncomputable def L0 : Lam := ⟨"renamed.<locals>.<lambda>", lamA (rlm (top 5)), lamB (rlm (top 5)), lamS (rlm (top 5)), ["term", "depth"], ["old", "new"]⟩
noncomputable instance tbs : Tbs := ⟨[(30, "renamed.<locals>.<lambda>")], [(17, L0)]⟩
noncomputable def gls : List D := [.tup [.str "yes", .str "no", .str "word"], .tup [.str "all", .str "some"], .tup [.str "close"]]
noncomputable def gns : List Str := ["LEAVES", "BINDERS", "CLOSE"]
end P1
end
section
namespace P1
open PySem L2 PP
noncomputable def takeS : Nat → Ss → Ss
  | 0, _ => .nil
  | _, .nil => .nil
  | k + 1, .cons s ss => .cons s (takeS k ss)
noncomputable def dropS : Nat → Ss → Ss
  | 0, ss => ss
  | _, .nil => .nil
  | k + 1, .cons _ ss => dropS k ss
noncomputable def nxS (R : PP.Loc → Prop) (Q : Out → Prop) : Out → Prop
  | .nx δ => R δ
  | o => Q o
theorem nxS_nx {R : PP.Loc → Prop} {Q : Out → Prop} {δ : PP.Loc} : nxS R Q (.nx δ) ↔ R δ := Iff.rfl
theorem wS_mono {cx : Cl} {s : S} {δ : PP.Loc} {P Q : Out → Prop} (h : wS cx s δ P) (k : ∀ o, P o → Q o) : wS cx s δ Q := let ⟨o, e, p⟩ := h; ⟨o, e, k o p⟩
theorem wSs_cut {cx : Cl} {Q : Out → Prop} {R : PP.Loc → Prop} : ∀ (k : Nat) (ss : Ss) (δ : PP.Loc), wSs cx (takeS k ss) δ (nxS R Q) → (∀ δ', R δ' → wSs cx (dropS k ss) δ' Q) → wSs cx ss δ Q
  | 0, ss, δ, h, q => by
    unfold takeS at h
    exact q δ (wSs_nil.mp h)
  | _ + 1, .nil, δ, h, q => by
    unfold takeS at h
    unfold dropS at q
    exact q δ (wSs_nil.mp h)
  | k + 1, .cons s ss, δ, h, q => by
    unfold takeS at h
    unfold dropS at q
    refine wSs_cons.mpr (wS_mono (wSs_cons.mp h) fun o p => ?_)
    cases o with
    | nx δ1 => exact wSs_cut k ss δ1 p q
    | rt d δ1 => exact p
    | bk δ1 => exact p
    | ct δ1 => exact p
    | ro d δ1 => exact p
theorem wSs_run {cx : Cl} {ss : Ss} {δ : PP.Loc} {Q : Out → Prop} (k : Nat) (δ' : PP.Loc) (h : evSs cx (takeS k ss) δ = some (.nx δ')) (q : wSs cx (dropS k ss) δ' Q) : wSs cx ss δ Q := wSs_cut (R := fun d => d = δ') k ss δ ⟨.nx δ', h, rfl⟩ fun _ e => e ▸ q
theorem wS_if' {cx : Cl} {c : E} {a b : Ss} {δ δ0 : PP.Loc} {Q : Out → Prop} (P : Bool → Prop) (h : wT cx c δ fun k δ1 => δ1 = δ0 ∧ P k) (ha : P true → wSs cx a δ0 Q) (hb : P false → wSs cx b δ0 Q) : wS cx (.ifs c a b) δ Q := by
  obtain ⟨k, δ1, e, rfl, p⟩ := h
  refine wS_ifs.mpr ⟨k, δ1, e, ?_⟩
  cases k
  · exact hb p
  · exact ha p
theorem iteI {c A B : Prop} [Decidable c] (h1 : c → A) (h2 : ¬ c → B) : if c then A else B := by
  by_cases h : c
  · rw [if_pos h]; exact h1 h
  · rw [if_neg h]; exact h2 h
theorem r_cell (n : Nat) (ns : List Int) (k : Int) (h0 : 0 ≤ k) (h1 : k ≤ 1000) : wRun Gs gls (n + 1) 6 [.lst (ns.map .int), .int k] fun d => ∃ c : Int, d = .int c := by
  refine wRun_def d__law_cell rfl rfl rfl ?_; simp only [d__law_cell, init, List.map_cons, List.map_nil, List.cons_append, List.nil_append, List.append_nil, List.length_cons, List.length_nil, List.replicate, Nat.reduceAdd, Nat.reduceSub]
  simp only [↓WS, ↓wE_callv, ↓wE_callF, ↓wS_retL, ↓wFnc_succ, ↓wFnc_fnc, ↓wCaps_nil, ↓wCaps_cons, ite_true, ite_false, Bool.false_eq_true, decide_eq_true_eq, ↓reduceIte]
  have hl : (ns.map D.int).length = ns.length := List.length_map _
  rw [hl]
  split
  · rename_i h
    obtain ⟨d, hm, e⟩ := at_ok (ds := ns.map D.int) h0 (by rw [hl]; exact h)
    obtain ⟨c, _, rfl⟩ := List.mem_map.mp hm
    exact ⟨_, e, c, rfl⟩
  · refine ⟨mul_r (by decide) (by decide), ?_⟩
    split
    · rename_i h
      obtain ⟨d, hm, e⟩ := at_ok (ds := ns.map D.int) (j := k * 7 % (ns.length : Int)) (Int.emod_nonneg _ (by omega)) (by rw [hl]; exact Int.emod_lt_of_pos _ h)
      obtain ⟨c, _, rfl⟩ := List.mem_map.mp hm
      refine ⟨mul_r (by decide) (by decide), h, _, e, ?_⟩
      simp only [↓WS, ↓wE_callv, ↓wE_callF, ↓wS_retL, ↓wFnc_succ, ↓wFnc_fnc, ↓wCaps_nil, ↓wCaps_cons, ite_true, ite_false, Bool.false_eq_true, decide_eq_true_eq, ↓reduceIte]
      have a1 := Int.emod_nonneg (c * 48271) (show (2147483647 : Int) ≠ 0 by decide)
      have a2 := Int.emod_lt_of_pos (c * 48271) (show (0 : Int) < 2147483647 by decide)
      exact ⟨mul_r (by decide) (by decide), by decide, mul_r (by decide) (by decide), mul_r (by omega) (by omega), by decide, _, rfl⟩
    · exact ⟨mul_r (by omega) (by omega), by decide, _, rfl⟩
noncomputable def nm (t : Str) : Prop := ∃ c r, t.cps.toList = c :: r ∧ 97 ≤ c ∧ c ≤ 122
theorem nm_app {a b : Str} (h : nm a) : nm (a ++ b) := by
  obtain ⟨c, r, e, h1, h2⟩ := h
  refine ⟨c, r ++ b.cps.toList, ?_, h1, h2⟩
  show (a.cps ++ b.cps).toList = _
  rw [Array.toList_append, e]
  rfl
theorem let26 : ∀ k : Nat, k < 26 → ∃ u, ("abcdefghijklmnopqrstuvwxyz0123456789" : Str).cps.toList[k]? = some u ∧ 97 ≤ u ∧ u ≤ 122 := by
  have h : ∀ k : Nat, k < 26 → (("abcdefghijklmnopqrstuvwxyz0123456789" : Str).cps.toList[k]?).any (fun u => decide (97 ≤ u) && decide (u ≤ 122)) = true := by decide +kernel
  intro k hk
  have := h k hk
  cases e : ("abcdefghijklmnopqrstuvwxyz0123456789" : Str).cps.toList[k]? with
  | none => rw [e] at this; cases this
  | some u =>
    rw [e] at this
    simp only [Option.any_some, Bool.and_eq_true, decide_eq_true_eq] at this
    exact ⟨u, rfl, this⟩
theorem r_name (n : Nat) (c : Int) : wRun Gs gls (n + 1) 7 [.int c] fun d => ∃ t : Str, d = .str t ∧ nm t := by
  refine wRun_def d__law_name rfl rfl rfl ?_; simp only [d__law_name, init, List.map_cons, List.map_nil, List.cons_append, List.nil_append, List.append_nil, List.length_cons, List.length_nil, List.replicate, Nat.reduceAdd, Nat.reduceSub]
  simp only [↓WS, ↓wE_callv, ↓wE_callF, ↓wS_retL, ↓wFnc_succ, ↓wFnc_fnc, ↓wCaps_nil, ↓wCaps_cons, ite_true, ite_false, Bool.false_eq_true, decide_eq_true_eq, ↓reduceIte]
  have e36 : ("abcdefghijklmnopqrstuvwxyz0123456789" : Str).length = 36 := by decide +kernel
  have j0 := Int.emod_nonneg (c / 8) (show (26 : Int) ≠ 0 by decide)
  have j1 := Int.emod_lt_of_pos (c / 8) (show (0 : Int) < 26 by decide)
  obtain ⟨u, eu, u1, u2⟩ := let26 (c / 8 % 26).toNat (by omega)
  have e : atI ("abcdefghijklmnopqrstuvwxyz0123456789" : Str).cps.toList (c / 8 % 26) = some u := by
    have := atI_nat eu
    rwa [Int.toNat_of_nonneg j0] at this
  refine ⟨by decide, by decide, by rw [e36]; exact small (by decide), u, e, by decide, by decide, ⟨by omega, by omega⟩, ?_⟩
  refine wFor_inv (fun xs δ => ∃ (c r : Int) (t : Str) (s : Sl), δ = [.val (.int c), .val (.str "abcdefghijklmnopqrstuvwxyz0123456789"), .val (.str t), .val (.int r), s] ∧ t.length + xs.length ≤ 8 ∧ nm t) ?_ ?_ _ _ ?_
  · rintro x xs δ ⟨c, r, t, s, rfl, ht, hm⟩
    rw [List.length_cons] at ht
    simp only [↓WS, ↓wE_callv, ↓wE_callF, ↓wS_retL, ↓wFnc_succ, ↓wFnc_fnc, ↓wCaps_nil, ↓wCaps_cons, ite_true, ite_false, Bool.false_eq_true, decide_eq_true_eq, ↓reduceIte]
    obtain ⟨v, _, e⟩ := at_ok (ds := ("abcdefghijklmnopqrstuvwxyz0123456789" : Str).cps.toList) (j := r % 36) (Int.emod_nonneg _ (by decide)) (by rw [str_len, e36]; exact Int.emod_lt_of_pos _ (by decide))
    have e1 : (⟨#[v]⟩ : Str).length = 1 := rfl
    exact ⟨by decide, by rw [e36]; exact small (by decide), v, e, small (by omega), by decide, _, _, _, _, rfl, by rw [str_app, e1]; omega, nm_app hm⟩
  · rintro δ ⟨c, r, t, s, rfl, ht, hm⟩
    simp only [↓WS, ↓wE_callv, ↓wE_callF, ↓wS_retL, ↓wFnc_succ, ↓wFnc_fnc, ↓wCaps_nil, ↓wCaps_cons, ite_true, ite_false, Bool.false_eq_true, decide_eq_true_eq, ↓reduceIte]
    exact ⟨t, rfl, hm⟩
  · refine ⟨_, _, _, _, rfl, ?_, u, [], rfl, u1, u2⟩
    rw [rng_len]
    have e1 : (⟨#[u]⟩ : Str).length = 1 := rfl
    omega
theorem r_word (n : Nat) (c : Int) : wRun Gs gls (n + 1) 8 [.int c] fun d => ∃ t : Str, d = .str t := by
  refine wRun_def d__law_word rfl rfl rfl ?_; simp only [d__law_word, init, List.map_cons, List.map_nil, List.cons_append, List.nil_append, List.append_nil, List.length_cons, List.length_nil, List.replicate, Nat.reduceAdd, Nat.reduceSub]
  simp only [↓WS, ↓wE_callv, ↓wE_callF, ↓wS_retL, ↓wFnc_succ, ↓wFnc_fnc, ↓wCaps_nil, ↓wCaps_cons, ite_true, ite_false, Bool.false_eq_true, decide_eq_true_eq, ↓reduceIte]
  have e26 : ("etaoinshrdlcumwfgypbvkjxqz" : Str).length = 26 := by decide +kernel
  refine ⟨by decide, by decide, ⟨by omega, by omega⟩, ?_⟩
  refine wFor_inv (fun xs δ => ∃ (c r : Int) (t : Str) (s : Sl), δ = [.val (.int c), .val (.str t), .val (.int r), s] ∧ t.length + xs.length ≤ 8) ?_ ?_ _ _ ?_
  · rintro x xs δ ⟨c, r, t, s, rfl, ht⟩
    rw [List.length_cons] at ht
    simp only [↓WS, ↓wE_callv, ↓wE_callF, ↓wS_retL, ↓wFnc_succ, ↓wFnc_fnc, ↓wCaps_nil, ↓wCaps_cons, ite_true, ite_false, Bool.false_eq_true, decide_eq_true_eq, ↓reduceIte]
    obtain ⟨v, _, e⟩ := at_ok (ds := ("etaoinshrdlcumwfgypbvkjxqz" : Str).cps.toList) (j := r % 26) (Int.emod_nonneg _ (by decide)) (by rw [str_len, e26]; exact Int.emod_lt_of_pos _ (by decide))
    have e1 : (⟨#[v]⟩ : Str).length = 1 := rfl
    exact ⟨by decide, by rw [e26]; exact small (by decide), v, e, small (by omega), by decide, _, _, _, _, rfl, by rw [str_app, e1]; omega⟩
  · rintro δ ⟨c, r, t, s, rfl, ht⟩
    rw [List.length_nil] at ht
    simp only [List.length_cons, List.length_nil, ↓WS, ↓wE_callv, ↓wE_callF, ↓wS_retL, ↓wFnc_succ, ↓wFnc_fnc, ↓wCaps_nil, ↓wCaps_cons, ite_true, ite_false, Bool.false_eq_true, decide_eq_true_eq, ↓reduceIte]
    refine ⟨by decide, by unfold dep; decide, ?_⟩
    have e1 : ("s" : Str).length = 1 := by decide
    split
    · exact ⟨small (by omega), _, rfl⟩
    · exact ⟨_, rfl⟩
  · refine ⟨_, _, _, _, rfl, ?_⟩
    rw [rng_len]
    have e1 : ("" : Str).length = 0 := by decide
    omega
end P1
end
section
namespace P1
open PySem L2 PP
inductive U | neg | all | ex
inductive B | and | or | imp
noncomputable def U.s : U → Str | .neg => "not" | .all => "all" | .ex => "some"
noncomputable def B.s : B → Str | .and => "and" | .or => "or" | .imp => "if"
inductive F where
  | yes | no | word (w : Str) (ts : List Str) | un (u : U) (a : F) | bi (b : B) (x y : F)
noncomputable def enc : F → D
  | .yes => .tup [.str "yes"]
  | .no => .tup [.str "no"]
  | .word w ts => .tup [.str "word", .str w, .tup (ts.map .str)]
  | .un u a => .tup [.str u.s, enc a]
  | .bi b x y => .tup [.str b.s, enc x, enc y]
noncomputable def ht : F → Nat
  | .un _ a => ht a + 1
  | .bi _ x y => max (ht x) (ht y) + 1
  | _ => 1
noncomputable def tmsF : F → List Str
  | .word _ ts => ts
  | .un _ a => tmsF a
  | .bi _ x y => tmsF x ++ tmsF y
  | _ => []
theorem log_small {i : Int} (h0 : 0 ≤ i) (h1 : i < 1000) : i.natAbs.log2 < 1920 := by
  have : i.natAbs < 1000 := by omega
  rcases Nat.eq_zero_or_pos i.natAbs with e | e
  · rw [e]; decide
  · have := (Nat.log2_lt (k := 10) (Nat.pos_iff_ne_zero.mp e)).mpr (by omega)
    omega
theorem eq_ww : (("word" : Str) == "word") = true := by decide +kernel
theorem eq_yw : (("yes" : Str) == "word") = false := by decide +kernel
theorem eq_nw : (("no" : Str) == "word") = false := by decide +kernel
theorem eq_uw (u : U) : (u.s == "word") = false := by cases u <;> decide +kernel
theorem eq_bw (u : B) : (u.s == "word") = false := by cases u <;> decide +kernel
theorem wSl_tl {a : D} {ds : List D} {Q : D → Prop} : wSl (.tup (a :: ds)) (some 1) none Q ↔ Q (.tup ds) := by
  have e1 : HT.sIx (a :: ds).length 0 (some 1) = 1 := by
    rw [show (1 : Int) = ((1 : Nat) : Int) from rfl, HT.sIx_nat]
    simp
  have e2 : HT.sIx (a :: ds).length (a :: ds).length none = (a :: ds).length := rfl
  unfold wSl slD
  dsimp only
  rw [e1, e2, if_neg (by simp)]
  unfold cutD
  rw [e1, e2]
  simp
theorem wSl_lst {ds : List D} {lo hi : Option Int} {Q : D → Prop} : wSl (.lst ds) lo hi Q ↔ Q (.lst (cutD ds lo hi)) := by simp [wSl, slD]
theorem cut_mem {ds : List D} {lo hi : Option Int} {x : D} (h : x ∈ cutD ds lo hi) : x ∈ ds := by
  unfold cutD at h
  exact List.mem_of_mem_drop (List.mem_of_mem_take h)
theorem cut_len {ds : List D} {lo hi : Option Int} : (cutD ds lo hi).length ≤ ds.length := by
  unfold cutD
  rw [List.length_take, List.length_drop]
  omega
theorem at_strs {ts : List Str} {j : Int} (h0 : 0 ≤ j) (h1 : j < ts.length) : ∃ t : Str, t ∈ ts ∧ atI (ts.map D.str) j = some (.str t) := by
  obtain ⟨d, hm, e⟩ := at_ok (ds := ts.map D.str) h0 (by rw [List.length_map]; exact h1)
  obtain ⟨t, ht, rfl⟩ := List.mem_map.mp hm
  exact ⟨t, ht, e⟩
theorem strs_all {P : D → D → Prop} {R : Str → Prop} (hP : ∀ x y, P x y → ∃ t : Str, y = .str t ∧ R t) : ∀ (ds ys : List D), Paired P ds ys → ∃ ts : List Str, ys = ts.map .str ∧ ts.length = ds.length ∧ ∀ t ∈ ts, R t := by
  intro ds ys r
  induction r with
  | nil => exact ⟨[], rfl, rfl, by simp⟩
  | cons h t ih =>
    obtain ⟨c, rfl, hc⟩ := hP _ _ h
    obtain ⟨cs, rfl, hl, ha⟩ := ih
    exact ⟨c :: cs, rfl, by simp [hl], by simpa [hc] using ha⟩
noncomputable def kinds : List Str := ["word", "not", "and", "or", "if", "all", "some", "yes", "no", "word"]
noncomputable def tmOk (nms : List Str) (t : Str) : Prop := t ∈ nms ∨ t = "0" ∨ t = "1" ∨ t = "2"
noncomputable def okF (nms : List Str) (m : Nat) (A : F) : Prop := ht A ≤ m + 1 ∧ (∀ t ∈ tmsF A, tmOk nms t) ∧ (tmsF A).length ≤ 3 * 2 ^ m
theorem pl_ok {i : Int} (h0 : 0 ≤ i) (h1 : i < 3) : toString i = ("0" : Str) ∨ toString i = ("1" : Str) ∨ toString i = ("2" : Str) := by
  rcases (show i = 0 ∨ i = 1 ∨ i = 2 by omega) with rfl | rfl | rfl
  · exact .inl (by decide +kernel)
  · exact .inr (.inl (by decide +kernel))
  · exact .inr (.inr (by decide +kernel))
theorem or_if {cx : Cl} {a b : Ss} {x y : E} {δ : PP.Loc} {Q : Out → Prop} {p q : Bool} (hx : ∀ {R : Bool → PP.Loc → Prop}, R p δ → wT cx x δ R) (hy : ∀ {R : Bool → PP.Loc → Prop}, R q δ → wT cx y δ R) (ha : p = true ∨ q = true → wSs cx a δ Q) (hb : p = false → q = false → wSs cx b δ Q) : wS cx (.ifs (.or x y) a b) δ Q := by
  refine wS_if' (δ0 := δ) (fun k => (k = true → p = true ∨ q = true) ∧ (k = false → p = false ∧ q = false)) ?_ (fun h => ha (h.1 rfl)) fun h => hb (h.2 rfl).1 (h.2 rfl).2
  rw [wT_or]
  refine hx ?_
  cases p
  · refine hy ?_
    exact ⟨rfl, fun h => .inr h, fun h => ⟨rfl, h⟩⟩
  · exact ⟨rfl, fun _ => .inl rfl, fun h => by cases h⟩
theorem one_if {cx : Cl} {a b : Ss} {x : E} {δ : PP.Loc} {Q : Out → Prop} {p : Bool} (hx : ∀ {R : Bool → PP.Loc → Prop}, R p δ → wT cx x δ R) (ha : p = true → wSs cx a δ Q) (hb : p = false → wSs cx b δ Q) : wS cx (.ifs x a b) δ Q := by
  refine wS_if' (δ0 := δ) (fun k => k = p) (hx ⟨rfl, rfl⟩) (fun h => ha h.symm) fun h => hb h.symm
theorem r_wide (nms : List Str) (hn : nms.length = 4) : ∀ (m : Nat) (n : Nat) (c ar : Int), m + 2 ≤ n → m ≤ 3 → 0 ≤ ar → ar + m ≤ 3 → wRun Gs gls n 9 [.int c, .int m, .int ar, .lst (nms.map .str)] fun d => ∃ A : F, d = enc A ∧ okF nms m A
  | m, 0, c, ar, h, hm, h0, h1 => by omega
  | m, n + 1, c, ar, h, hm, h0, h1 => by
    refine wRun_def d__law_wide rfl rfl rfl ?_; simp only [d__law_wide, init, List.map_cons, List.map_nil, List.cons_append, List.nil_append, List.append_nil, List.length_cons, List.length_nil, List.replicate, Nat.reduceAdd, Nat.reduceSub]
    refine wSs_cut (R := fun δ => ∃ kd ∈ kinds, δ = [.val (.int c), .val (.int m), .val (.int ar), .val (.lst (nms.map .str)), .val (.str kd), .val (.int (c / 10)), .no, .no, .no]) 2 _ _ ?_ ?_
    · simp only [takeS, ↓nxS_nx, List.length_cons, List.length_nil, ↓WS, ↓wE_callv, ↓wE_callF, ↓wS_retL, ↓wFnc_succ, ↓wFnc_fnc, ↓wCaps_nil, ↓wCaps_cons, ite_true, ite_false, Bool.false_eq_true, decide_eq_true_eq, ↓reduceIte]
      obtain ⟨kd, hk, e⟩ := at_strs (ts := kinds) (j := c % 10) (Int.emod_nonneg _ (by decide)) (by have := Int.emod_lt_of_pos c (show (0 : Int) < 10 by decide); exact this)
      exact ⟨by decide, by decide, .str kd, e, ⟨by decide, by decide⟩, kd, hk, rfl⟩
    rintro _ ⟨kd, hk, rfl⟩
    simp only [dropS]
    refine wSs_cons.mpr (or_if (p := kd == "yes") (q := kd == "no") (fun h => by simp only [↓WS, ↓wE_callv, ↓wE_callF, ↓wS_retL, ↓wFnc_succ, ↓wFnc_fnc, ↓wCaps_nil, ↓wCaps_cons, ite_true, ite_false, Bool.false_eq_true, decide_eq_true_eq, ↓reduceIte]; exact h) (fun h => by simp only [↓WS, ↓wE_callv, ↓wE_callF, ↓wS_retL, ↓wFnc_succ, ↓wFnc_fnc, ↓wCaps_nil, ↓wCaps_cons, ite_true, ite_false, Bool.false_eq_true, decide_eq_true_eq, ↓reduceIte]; exact h) (fun hw => ?_) fun w1 w2 => wSs_nil.mpr (wSs_cons.mpr (or_if (p := kd == "word") (q := decide ((m : Int) = 0)) (fun h => by simp only [↓WS, ↓wE_callv, ↓wE_callF, ↓wS_retL, ↓wFnc_succ, ↓wFnc_fnc, ↓wCaps_nil, ↓wCaps_cons, ite_true, ite_false, Bool.false_eq_true, decide_eq_true_eq, ↓reduceIte]; exact h) (fun h => by simp only [↓wT_cmp, ↓wE_var', ↓wVar_succ, ↓wVar_val, ↓wE_int, ↓wCmp_eqI]; exact h) (fun hw => ?_) fun w3 w4 => wSs_nil.mpr (wSs_cons.mpr (one_if (p := kd == "not") (fun h => by simp only [↓WS, ↓wE_callv, ↓wE_callF, ↓wS_retL, ↓wFnc_succ, ↓wFnc_fnc, ↓wCaps_nil, ↓wCaps_cons, ite_true, ite_false, Bool.false_eq_true, decide_eq_true_eq, ↓reduceIte]; exact h) (fun hw => ?_) fun w5 => wSs_nil.mpr (wSs_cons.mpr (or_if (p := kd == "all") (q := kd == "some") (fun h => by simp only [↓WS, ↓wE_callv, ↓wE_callF, ↓wS_retL, ↓wFnc_succ, ↓wFnc_fnc, ↓wCaps_nil, ↓wCaps_cons, ite_true, ite_false, Bool.false_eq_true, decide_eq_true_eq, ↓reduceIte]; exact h) (fun h => by simp only [↓WS, ↓wE_callv, ↓wE_callF, ↓wS_retL, ↓wFnc_succ, ↓wFnc_fnc, ↓wCaps_nil, ↓wCaps_cons, ite_true, ite_false, Bool.false_eq_true, decide_eq_true_eq, ↓reduceIte]; exact h) (fun hw => ?_) fun w6 w7 => wSs_nil.mpr ?_)))))))
    · simp only [List.length_cons, List.length_nil, ↓WS, ↓wE_callv, ↓wE_callF, ↓wS_retL, ↓wFnc_succ, ↓wFnc_fnc, ↓wCaps_nil, ↓wCaps_cons, ite_true, ite_false, Bool.false_eq_true, decide_eq_true_eq, ↓reduceIte]
      refine ⟨by decide, ?_⟩
      rcases hw with hw | hw
      · rw [eq_of_beq hw]; exact ⟨.yes, rfl, by simp [ht], by simp [tmsF], by simp [tmsF]⟩
      · rw [eq_of_beq hw]; exact ⟨.no, rfl, by simp [ht], by simp [tmsF], by simp [tmsF]⟩
    · simp only [↓WS, ↓wE_callv, ↓wE_callF, ↓wS_retL, ↓wFnc_succ, ↓wFnc_fnc, ↓wCaps_nil, ↓wCaps_cons, ite_true, ite_false, Bool.false_eq_true, decide_eq_true_eq, ↓reduceIte]
      refine ⟨⟨by omega, by omega⟩, ?_⟩
      refine wComp_each (fun x y => ∃ t : Str, y = .str t ∧ (t = "0" ∨ t = "1" ∨ t = "2")) _ ?_ ?_
      · intro x hx
        obtain ⟨i, hi, rfl⟩ := rng_mem hx
        simp only [List.cons_append, List.nil_append, List.replicate, ↓WS, ↓wE_callv, ↓wE_callF, ↓wS_retL, ↓wFnc_succ, ↓wFnc_fnc, ↓wCaps_nil, ↓wCaps_cons, ite_true, ite_false, Bool.false_eq_true, decide_eq_true_eq, ↓reduceIte]
        exact ⟨trivial, log_small (by omega) (by omega), ⟨_, rfl, pl_ok (by omega) (by omega)⟩, rfl⟩
      · intro ys r
        obtain ⟨ts, rfl, hl, hts⟩ := strs_all (fun _ _ h => h) _ _ r
        rw [rng_len] at hl
        simp only [List.length_map, ↓wSl_lst, List.length_cons, List.length_nil, ↓WS, ↓wE_callv, ↓wE_callF, ↓wS_retL, ↓wFnc_succ, ↓wFnc_fnc, ↓wCaps_nil, ↓wCaps_cons, ite_true, ite_false, Bool.false_eq_true, decide_eq_true_eq, ↓reduceIte]
        refine ⟨small (by omega), small (by omega), mul_r (by decide) (by decide), by decide, mul_r (by decide) (by decide), by decide, mul_r (by decide) (by decide), by decide, by decide, by decide, ?_⟩
        obtain ⟨n', rfl⟩ : ∃ n', n = n' + 1 := ⟨n - 1, by omega⟩
        refine wRun_mono (r_word n' _) ?_
        rintro _ ⟨w, rfl⟩
        refine ⟨by decide, ?_⟩
        rw [← List.map_append]
        refine wComp_each (fun x y => ∃ t : Str, y = .str t ∧ tmOk nms t) _ ?_ ?_
        · intro x hx
          have hx' := cut_mem hx
          have : ∃ v : Int, x = .int v := by
            simp only [List.mem_cons, List.not_mem_nil, or_false] at hx'
            rcases hx' with rfl | rfl | rfl <;> exact ⟨_, rfl⟩
          obtain ⟨v, rfl⟩ := this
          simp only [List.cons_append, List.nil_append, List.replicate, List.length_append, List.length_map, ↓WS, ↓wE_callv, ↓wE_callF, ↓wS_retL, ↓wFnc_succ, ↓wFnc_fnc, ↓wCaps_nil, ↓wCaps_cons, ite_true, ite_false, Bool.false_eq_true, decide_eq_true_eq, ↓reduceIte]
          obtain ⟨t, hm', e⟩ := at_strs (ts := nms ++ ts) (j := v % ((nms.length + ts.length : Nat) : Int)) (Int.emod_nonneg _ (by omega)) (by rw [List.length_append]; exact Int.emod_lt_of_pos _ (by omega))
          exact ⟨trivial, by omega, _, e, ⟨t, rfl, (List.mem_append.mp hm').imp id (hts t)⟩, rfl⟩
        · intro ys r
          obtain ⟨us, rfl, hl, hus⟩ := strs_all (fun _ _ h => h) _ _ r
          have hl2 := @cut_len [D.int (c / 10 * 31 % 1009), D.int (c / 10 * 37 % 1013), D.int (c / 10 * 41 % 1019)] none (some (c / 10 % 4))
          simp only [List.length_cons, List.length_nil] at hl2
          refine ⟨by rw [List.length_map]; exact small (by omega), ?_⟩
          have p1 : 1 ≤ 2 ^ m := Nat.one_le_two_pow
          exact ⟨by decide, .word w us, rfl, by simp [ht], hus, by show us.length ≤ _; omega⟩
    all_goals
      have hm0 : 1 ≤ m := by
        have := of_decide_eq_false w4
        omega
      obtain ⟨m', rfl⟩ : ∃ m', m = m' + 1 := ⟨m - 1, by omega⟩
      have em : ((m' + 1 : Nat) : Int) - 1 = (m' : Int) := by omega
      have ep : 2 ^ (m' + 1) = 2 * 2 ^ m' := by rw [Nat.pow_succ]; omega
      simp only [List.length_cons, List.length_nil, em, ↓WS, ↓wE_callv, ↓wE_callF, ↓wS_retL, ↓wFnc_succ, ↓wFnc_fnc, ↓wCaps_nil, ↓wCaps_cons, ite_true, ite_false, Bool.false_eq_true, decide_eq_true_eq, ↓reduceIte]
    · refine wRun_mono (r_wide nms hn m' n (c / 10) ar (by omega) (by omega) h0 (by omega)) ?_
      rintro _ ⟨A, rfl, hA⟩
      exact ⟨by decide, .un .neg A, rfl, by have := hA.1; simp only [ht]; omega, hA.2.1, by have := hA.2.2; simp only [tmsF]; omega⟩
    · refine wRun_mono (r_wide nms hn m' n (c / 10) (ar + 1) (by omega) (by omega) (by omega) (by omega)) ?_
      rintro _ ⟨A, rfl, hA⟩
      refine ⟨by decide, ?_⟩
      rcases hw with hw | hw
      · rw [eq_of_beq hw]; exact ⟨.un .all A, rfl, by have := hA.1; simp only [ht]; omega, hA.2.1, by have := hA.2.2; simp only [tmsF]; omega⟩
      · rw [eq_of_beq hw]; exact ⟨.un .ex A, rfl, by have := hA.1; simp only [ht]; omega, hA.2.1, by have := hA.2.2; simp only [tmsF]; omega⟩
    have hb : ∃ b : B, kd = b.s := by
      have nb : ∀ {a b : Str}, (a == b) = false → a ≠ b := fun h e => by rw [e, beq_self_eq_true] at h; cases h
      have hk' : kd = "word" ∨ kd = "not" ∨ kd = "and" ∨ kd = "or" ∨ kd = "if" ∨ kd = "all" ∨ kd = "some" ∨ kd = "yes" ∨ kd = "no" ∨ kd = "word" := by simpa [kinds] using hk
      rcases hk' with z | z | z | z | z | z | z | z | z | z
      · exact absurd z (nb w3)
      · exact absurd z (nb w5)
      · exact ⟨.and, z⟩
      · exact ⟨.or, z⟩
      · exact ⟨.imp, z⟩
      · exact absurd z (nb w6)
      · exact absurd z (nb w7)
      · exact absurd z (nb w1)
      · exact absurd z (nb w2)
      · exact absurd z (nb w3)
    obtain ⟨b, rfl⟩ := hb
    refine ⟨mul_r (by decide) (by decide), by decide, wRun_mono (r_wide nms hn m' n _ ar (by omega) (by omega) h0 (by omega)) ?_⟩
    rintro _ ⟨A, rfl, hA⟩
    refine ⟨mul_r (by decide) (by decide), by decide, wRun_mono (r_wide nms hn m' n _ ar (by omega) (by omega) h0 (by omega)) ?_⟩
    rintro _ ⟨A2, rfl, hA2⟩
    exact ⟨by decide, .bi b A A2, rfl, by have := hA.1; have := hA2.1; simp only [ht]; omega, fun t h => (List.mem_append.mp h).elim (hA.2.1 t) (hA2.2.1 t), by have := hA.2.2; have := hA2.2.2; simp only [tmsF, List.length_append]; omega⟩
end P1
end
section
namespace P1
open PySem L2 PP
noncomputable def lvs : List D := [.str "yes", .str "no", .str "word"]
theorem wE_g0 {f : Nat → List D → Option D} {h : Nat → Bool} {δ : PP.Loc} {Q : D → PP.Loc → Prop} : wE ⟨f, gls, h⟩ (.glob 0) δ Q ↔ Q (.tup lvs) δ := by
  rw [wE_glob]
  exact ⟨fun ⟨_, e, q⟩ => by cases e; exact q, fun q => ⟨_, rfl, q⟩⟩
theorem dep_str (x : Str) : dep (.str x) = 0 := by unfold dep; rfl
theorem lv_u (u : U) : (lvs.any fun y => eqD y (.str u.s)) = false := by cases u <;> decide +kernel
theorem lv_b (u : B) : (lvs.any fun y => eqD y (.str u.s)) = false := by cases u <;> decide +kernel
theorem lv_y : (lvs.any fun y => eqD y (.str "yes")) = true := by decide +kernel
theorem lv_n : (lvs.any fun y => eqD y (.str "no")) = true := by decide +kernel
theorem lv_w : (lvs.any fun y => eqD y (.str "word")) = true := by decide +kernel
noncomputable def kd : F → Str
  | .yes => "yes" | .no => "no" | .word _ _ => "word" | .un u _ => u.s | .bi b _ _ => b.s
noncomputable def ins : F → List F
  | .un _ a => [a]
  | .bi _ x y => [x, y]
  | _ => []
noncomputable def rest : F → List D
  | .word w ts => [.str w, .tup (ts.map .str)]
  | A => (ins A).map enc
theorem enc_hd (A : F) : enc A = .tup (.str (kd A) :: rest A) := by cases A <;> rfl
theorem r_inside (n : Nat) (A : F) : PP.run Gs gls (n + 1) 0 [enc A] = some (.tup ((ins A).map enc)) := by
  apply wRun_out
  rw [enc_hd]
  refine wRun_def d_inside rfl rfl rfl ?_; simp only [d_inside, init, List.map_cons, List.map_nil, List.cons_append, List.nil_append, List.append_nil, List.length_cons, List.length_nil, List.replicate, Nat.reduceAdd, Nat.reduceSub]
  have lv : (lvs.any fun y => eqD y (.str (kd A))) = (match A with | .un _ _ => false | .bi _ _ _ => false | _ => true) := by
    cases A with
    | un u a => exact lv_u u
    | bi b x y => exact lv_b b
    | yes => exact lv_y
    | no => exact lv_n
    | word w ts => exact lv_w
  simp only [↓wE_g0, ↓wSl_tl, dep_str, lv, ↓WS, ↓wE_callv, ↓wE_callF, ↓wS_retL, ↓wFnc_succ, ↓wFnc_fnc, ↓wCaps_nil, ↓wCaps_cons, ite_true, ite_false, Bool.false_eq_true, decide_eq_true_eq, ↓reduceIte]
  cases A <;> simp [ins, rest, wSl_tl]
theorem ins_ht {A B : F} (h : B ∈ ins A) : ht B + 1 ≤ ht A := by
  cases A <;> simp only [ins, List.mem_cons, List.not_mem_nil, or_false] at h
  · subst h; simp only [ht]; omega
  · rcases h with rfl | rfl <;> simp only [ht] <;> omega
theorem kd_word {A : F} : (kd A == "word") = true ↔ ∃ w ts, A = .word w ts := by
  constructor
  · intro h
    cases A with
    | word w ts => exact ⟨w, ts, rfl⟩
    | un u a => rw [show kd (.un u a) = u.s from rfl, eq_uw] at h; cases h
    | bi u a b => rw [show kd (.bi u a b) = u.s from rfl, eq_bw] at h; cases h
    | yes => rw [show kd .yes = "yes" from rfl, eq_yw] at h; cases h
    | no => rw [show kd .no = "no" from rfl, eq_nw] at h; cases h
  · rintro ⟨w, ts, rfl⟩
    exact eq_ww
theorem ht_pos (A : F) : 1 ≤ ht A := by cases A <;> simp [ht]
noncomputable def bds : List D := [.str "all", .str "some"]
theorem wE_g1 {f : Nat → List D → Option D} {h : Nat → Bool} {δ : PP.Loc} {Q : D → PP.Loc → Prop} : wE ⟨f, gls, h⟩ (.glob 1) δ Q ↔ Q (.tup bds) δ := by
  rw [wE_glob]
  exact ⟨fun ⟨_, e, q⟩ => by cases e; exact q, fun q => ⟨_, rfl, q⟩⟩
theorem lf_strs : ∀ ts : List Str, lfL (ts.map D.str) = true
  | [] => by unfold lfL; rfl
  | t :: ts => by rw [List.map_cons]; unfold lfL lf; exact lf_strs ts
theorem lf_enc : ∀ A : F, lf (enc A) = true
  | .yes | .no => by unfold enc; decide +kernel
  | .word w ts => by unfold enc; simp only [lf, lfL, lf_strs, Bool.and_self]
  | .un u a => by unfold enc; simp only [lf, lfL, lf_enc a, Bool.and_self]
  | .bi b x y => by unfold enc; simp only [lf, lfL, lf_enc x, lf_enc y, Bool.and_self]
theorem dep_strs : ∀ ts : List Str, depL (ts.map D.str) = 0
  | [] => by unfold depL; rfl
  | t :: ts => by rw [List.map_cons]; unfold depL; rw [dep_str, dep_strs ts]; rfl
theorem dep_enc : ∀ A : F, dep (enc A) ≤ ht A + 1
  | .yes | .no => by unfold enc; simp [dep, depL, ht]
  | .word w ts => by unfold enc; simp [dep, depL, dep_strs, ht]
  | .un u a => by have := dep_enc a; unfold enc; simp [dep, depL, ht]; omega
  | .bi b x y => by have := dep_enc x; have := dep_enc y; unfold enc; simp [dep, depL, ht]; omega
noncomputable def rn (o n t : Str) : Str := if (t == o) = true then n else t
noncomputable def ren (o n : Str) : F → F
  | .word w ts => .word w (ts.map (rn o n))
  | .un u a => .un u (ren o n a)
  | .bi b x y => .bi b (ren o n x) (ren o n y)
  | A => A
theorem ren_kd (o n : Str) (A : F) : kd (ren o n A) = kd A := by cases A <;> rfl
theorem ren_ins (o n : Str) (A : F) : ins (ren o n A) = (ins A).map (ren o n) := by cases A <;> rfl
theorem ren_ht (o n : Str) : ∀ A : F, ht (ren o n A) = ht A
  | .yes | .no | .word _ _ => rfl
  | .un u a => by simp only [ren, ht, ren_ht o n a]
  | .bi b x y => by simp only [ren, ht, ren_ht o n x, ren_ht o n y]
theorem ren_tms (o n : Str) : ∀ A : F, tmsF (ren o n A) = (tmsF A).map (rn o n)
  | .yes | .no | .word _ _ => rfl
  | .un u a => by simp only [ren, tmsF, ren_tms o n a]
  | .bi b x y => by simp only [ren, tmsF, ren_tms o n x, ren_tms o n y, List.map_append]
theorem ins_tms {A B : F} (h : B ∈ ins A) : (tmsF B).length ≤ (tmsF A).length := by
  cases A <;> simp only [ins, List.mem_cons, List.not_mem_nil, or_false] at h
  · subst h; exact Nat.le_refl _
  · rcases h with rfl | rfl <;> simp [tmsF]
theorem ins_len (A : F) : (ins A).length ≤ 2 := by cases A <;> simp [ins]
theorem rest_ins {A : F} (hw : ¬ (kd A == "word") = true) : rest A = (ins A).map enc := by
  cases A with
  | word w ts => exact absurd (kd_word.mpr ⟨w, ts, rfl⟩) hw
  | _ => rfl
theorem ren_enc {A : F} (o n : Str) (hw : ¬ (kd A == "word") = true) : enc (ren o n A) = .tup (.str (kd A) :: (ins A).map fun B => enc (ren o n B)) := by
  have hw' : ¬ (kd (ren o n A) == "word") = true := by rw [ren_kd]; exact hw
  rw [enc_hd, rest_ins hw', ren_kd, ren_ins, List.map_map]
  rfl
theorem r_lam (o nw : Str) (n : Nat) (t : Str) (k : Int) : PP.run Gs gls (n + 1) 17 [.str t, .int k, .str o, .str nw] = some (.str (rn o nw t)) := by
  apply wRun_out
  refine wRun_def d_lam0 rfl rfl rfl ?_; simp only [d_lam0, init, List.map_cons, List.map_nil, List.cons_append, List.nil_append, List.append_nil, List.length_cons, List.length_nil, List.replicate, Nat.reduceAdd, Nat.reduceSub]
  simp only [↓WS, ↓wE_callv, ↓wE_callF, ↓wS_retL, ↓wFnc_succ, ↓wFnc_fnc, ↓wCaps_nil, ↓wCaps_cons, ite_true, ite_false, Bool.false_eq_true, decide_eq_true_eq, ↓reduceIte]
  unfold rn
  split <;> rfl
theorem r_with (o nw : Str) : ∀ (n : Nat) (A : F) (k : Int), ht A + 1 ≤ n → (tmsF A).length ≤ 1000 → PP.run Gs gls n 1 [enc A, .int k, .fn 17 [.str o, .str nw]] = some (enc (ren o nw A))
  | 0, A, k, h, _ => by omega
  | 1, A, k, h, _ => by have := ht_pos A; omega
  | n + 2, A, k, h, hl => by
    apply wRun_out
    refine wRun_defF d_with_terms rfl rfl rfl rfl ?_; simp only [d_with_terms, initF, List.dropLast, List.map_cons, List.map_nil, List.cons_append, List.nil_append, List.append_nil, List.length_cons, List.length_nil, List.replicate, Nat.reduceAdd, Nat.reduceSub]
    refine wSs_cut (R := fun δ => ¬ (kd A == "word") = true ∧ ∃ k' : Int, δ = [.val (enc A), .val (.int k), .fnc 17 [.str o, .str nw], .val (.str (kd A)), .val (.int k')]) 3 _ _ ?_ ?_
    · simp only [takeS]
      rw [enc_hd]
      simp only [↓WS, ↓wE_callv, ↓wE_callF, ↓wS_retL, ↓wFnc_succ, ↓wFnc_fnc, ↓wCaps_nil, ↓wCaps_cons, ite_true, ite_false, Bool.false_eq_true, decide_eq_true_eq, ↓reduceIte]
      rw [← enc_hd]
      refine iteI (fun hw => ?_) (fun hw => ?_)
      · obtain ⟨w, ts, rfl⟩ := kd_word.mp hw
        have hl' : ts.length ≤ 1000 := hl
        unfold enc
        simp only [List.length_cons, List.length_nil, ↓WS, ↓wE_callv, ↓wE_callF, ↓wS_retL, ↓wFnc_succ, ↓wFnc_fnc, ↓wCaps_nil, ↓wCaps_cons, ite_true, ite_false, Bool.false_eq_true, decide_eq_true_eq, ↓reduceIte]
        refine wComp_map D.str (fun _ => true) (fun t => .str (rn o nw t)) ts ?_ ?_
        · intro t _
          simp only [List.cons_append, List.nil_append, List.replicate, ↓WS, ↓wE_callv, ↓wE_callF, ↓wS_retL, ↓wFnc_succ, ↓wFnc_fnc, ↓wCaps_nil, ↓wCaps_cons, ite_true, ite_false, Bool.false_eq_true, decide_eq_true_eq, ↓reduceIte]
          refine ⟨trivial, by simp [lfL, lf], ?_⟩
          rw [wRun_eq (r_lam o nw n t k)]
          exact ⟨by simp [lf], rfl, rfl⟩
        · rw [List.filter_eq_self.mpr fun _ _ => rfl]
          refine ⟨by rw [List.length_map]; exact small hl', by decide, ?_⟩
          show D.tup [_, _, D.tup (ts.map fun t => D.str (rn o nw t))] = D.tup [.str "word", .str w, .tup ((ts.map (rn o nw)).map .str)]
          rw [List.map_map]
          rfl
      · simp only [↓wE_g1, dep_str, ↓nxS_nx, ↓WS, ↓wE_callv, ↓wE_callF, ↓wS_retL, ↓wFnc_succ, ↓wFnc_fnc, ↓wCaps_nil, ↓wCaps_cons, ite_true, ite_false, Bool.false_eq_true, decide_eq_true_eq, ↓reduceIte]
        refine ⟨by decide, iteI (fun _ => ⟨hw, _, rfl⟩) fun _ => ⟨hw, _, rfl⟩⟩
    · rintro _ ⟨hw, k', rfl⟩
      simp only [dropS, ↓wRun_eq (r_inside _ _), List.length_cons, List.length_nil, ↓WS, ↓wE_callv, ↓wE_callF, ↓wS_retL, ↓wFnc_succ, ↓wFnc_fnc, ↓wCaps_nil, ↓wCaps_cons, ite_true, ite_false, Bool.false_eq_true, decide_eq_true_eq, ↓reduceIte]
      refine ⟨by decide, wComp_map enc (fun _ => true) (fun B => enc (ren o nw B)) (ins A) ?_ ?_⟩
      · intro B hB
        have h1 := ins_ht hB
        have h2 := ins_tms hB
        simp only [List.cons_append, List.nil_append, List.replicate, ↓wRun_eq (r_with o nw (n + 1) B k' (by omega) (by omega)), ↓WS, ↓wE_callv, ↓wE_callF, ↓wS_retL, ↓wFnc_succ, ↓wFnc_fnc, ↓wCaps_nil, ↓wCaps_cons, ite_true, ite_false, Bool.false_eq_true, decide_eq_true_eq, ↓reduceIte]
        exact ⟨trivial, rfl, trivial, rfl⟩
      · rw [List.filter_eq_self.mpr fun _ _ => rfl]
        have h2 := ins_len A
        refine ⟨by rw [List.length_map]; exact small (by omega), ⟨by simp, by rw [List.length_map]; exact small (by omega)⟩, ?_⟩
        rw [ren_enc o nw hw]
        rfl
theorem r_renamed (o nw : Str) (n : Nat) (A : F) (h : ht A + 1 ≤ n) (hl : (tmsF A).length ≤ 1000) : PP.run Gs gls (n + 1) 2 [enc A, .str o, .str nw] = some (enc (ren o nw A)) := by
  have r := r_with o nw n A 0 h hl
  apply wRun_out
  refine wRun_def d_renamed rfl rfl rfl ?_; simp only [d_renamed, init, List.map_cons, List.map_nil, List.cons_append, List.nil_append, List.append_nil, List.length_cons, List.length_nil, List.replicate, Nat.reduceAdd, Nat.reduceSub]
  simp only [flat, List.cons_append, List.nil_append, ↓wRun_eq r, lf_enc, ↓WS, ↓wE_callv, ↓wE_callF, ↓wS_retL, ↓wFnc_succ, ↓wFnc_fnc, ↓wCaps_nil, ↓wCaps_cons, ite_true, ite_false, Bool.false_eq_true, decide_eq_true_eq, ↓reduceIte]
  exact ⟨trivial, trivial, rfl, trivial, trivial⟩
theorem r_lren (o nw : Str) : ∀ (n : Nat) (A : F), ht A ≤ n → (tmsF A).length ≤ 1000 → PP.run Gs gls n 11 [enc A, .str o, .str nw] = some (enc (ren o nw A))
  | 0, A, h, _ => by have := ht_pos A; omega
  | n + 1, A, h, hl => by
    apply wRun_out
    rw [enc_hd]
    refine wRun_def d__law_renamed rfl rfl rfl ?_; simp only [d__law_renamed, init, List.map_cons, List.map_nil, List.cons_append, List.nil_append, List.append_nil, List.length_cons, List.length_nil, List.replicate, Nat.reduceAdd, Nat.reduceSub]
    simp only [↓WS, ↓wE_callv, ↓wE_callF, ↓wS_retL, ↓wFnc_succ, ↓wFnc_fnc, ↓wCaps_nil, ↓wCaps_cons, ite_true, ite_false, Bool.false_eq_true, decide_eq_true_eq, ↓reduceIte]
    refine iteI (fun hw => ?_) (fun hw => ?_)
    · obtain ⟨w, ts, rfl⟩ := kd_word.mp hw
      have hl' : ts.length ≤ 1000 := hl
      simp only [rest, ↓wIx_tup2, List.length_nil, ↓WS, ↓wE_callv, ↓wE_callF, ↓wS_retL, ↓wFnc_succ, ↓wFnc_fnc, ↓wCaps_nil, ↓wCaps_cons, ite_true, ite_false, Bool.false_eq_true, decide_eq_true_eq, ↓reduceIte]
      refine ⟨by decide, ?_⟩
      refine wFor_map D.str (fun xs δ => ∃ (pre : List Str) (s : Sl), pre ++ xs = ts ∧ δ = [.val (.tup [.str "word", .str w, .tup (ts.map .str)]), .val (.str o), .val (.str nw), .own ((pre.map (rn o nw)).map .str), s]) ?_ ?_ _ _ ⟨[], _, rfl, rfl⟩
      · rintro t xs δ ⟨pre, s, e, rfl⟩
        have hp : pre.length ≤ 1000 := by
          have := congrArg List.length e
          rw [List.length_append] at this
          omega
        simp only [List.length_map, ↓WS, ↓wE_callv, ↓wE_callF, ↓wS_retL, ↓wFnc_succ, ↓wFnc_fnc, ↓wCaps_nil, ↓wCaps_cons, ite_true, ite_false, Bool.false_eq_true, decide_eq_true_eq, ↓reduceIte]
        have key : ∀ u : Str, u = rn o nw t → pre.length < sizeLine ∧ ∃ (pre' : List Str) (s : Sl), pre' ++ xs = ts ∧ ([.val (.tup [.str "word", .str w, .tup (ts.map .str)]), .val (.str o), .val (.str nw), .own ((pre.map (rn o nw)).map .str ++ [.str u]), .val (.str u)] : PP.Loc) = [.val (.tup [.str "word", .str w, .tup (ts.map .str)]), .val (.str o), .val (.str nw), .own ((pre'.map (rn o nw)).map .str), s] := fun u hu => ⟨Nat.lt_of_le_of_lt hp (by decide), pre ++ [t], .val (.str u), by rw [← e]; simp, by rw [hu]; simp⟩
        unfold rn at key
        refine iteI (fun z => ?_) (fun z => ?_)
        · exact key nw (by rw [if_pos z])
        · exact key t (by rw [if_neg z])
      · rintro δ ⟨pre, s, e, rfl⟩
        rw [List.append_nil] at e
        subst e
        simp only [List.length_cons, List.length_nil, List.length_map, ↓WS, ↓wE_callv, ↓wE_callF, ↓wS_retL, ↓wFnc_succ, ↓wFnc_fnc, ↓wCaps_nil, ↓wCaps_cons, ite_true, ite_false, Bool.false_eq_true, decide_eq_true_eq, ↓reduceIte]
        exact ⟨by decide, rfl⟩
    · simp only [↓wSl_tl, rest_ins hw, List.length_cons, List.length_nil, ↓WS, ↓wE_callv, ↓wE_callF, ↓wS_retL, ↓wFnc_succ, ↓wFnc_fnc, ↓wCaps_nil, ↓wCaps_cons, ite_true, ite_false, Bool.false_eq_true, decide_eq_true_eq, ↓reduceIte]
      refine ⟨by decide, wComp_map enc (fun _ => true) (fun B => enc (ren o nw B)) (ins A) ?_ ?_⟩
      · intro B hB
        have h1 := ins_ht hB
        have h2 := ins_tms hB
        simp only [List.cons_append, List.nil_append, List.replicate, ↓wRun_eq (r_lren o nw n B (by omega) (by omega)), ↓WS, ↓wE_callv, ↓wE_callF, ↓wS_retL, ↓wFnc_succ, ↓wFnc_fnc, ↓wCaps_nil, ↓wCaps_cons, ite_true, ite_false, Bool.false_eq_true, decide_eq_true_eq, ↓reduceIte]
        exact ⟨trivial, trivial, rfl⟩
      · rw [List.filter_eq_self.mpr fun _ _ => rfl]
        have h2 := ins_len A
        refine ⟨by rw [List.length_map]; exact small (by omega), ⟨by simp, by rw [List.length_map]; exact small (by omega)⟩, ?_⟩
        rw [ren_enc o nw hw]
        rfl
noncomputable def inF (x : Str) (A : F) : Bool := (tmsF A).any fun t => t == x
theorem any_str (ts : List Str) (x : Str) : ((ts.map D.str).any fun y => eqD y (.str x)) = ts.any fun t => t == x := by
  rw [List.any_map]
  congr 1
theorem r_inS (x : Str) : ∀ (n : Nat) (A : F), ht A ≤ n → PP.run Gs gls n 13 [enc A, .str x] = some (.bl (inF x A))
  | 0, A, h => by have := ht_pos A; omega
  | n + 1, A, h => by
    apply wRun_out
    rw [enc_hd]
    refine wRun_def d__law_in_statement rfl rfl rfl ?_; simp only [d__law_in_statement, init, List.map_cons, List.map_nil, List.cons_append, List.nil_append, List.append_nil, List.length_cons, List.length_nil, List.replicate, Nat.reduceAdd, Nat.reduceSub]
    simp only [↓WS, ↓wE_callv, ↓wE_callF, ↓wS_retL, ↓wFnc_succ, ↓wFnc_fnc, ↓wCaps_nil, ↓wCaps_cons, ite_true, ite_false, Bool.false_eq_true, decide_eq_true_eq, ↓reduceIte]
    refine iteI (fun hw => ?_) (fun hw => ?_)
    · obtain ⟨w, ts, rfl⟩ := kd_word.mp hw
      simp only [rest, ↓wIx_tup2, dep_str, any_str, ↓WS, ↓wE_callv, ↓wE_callF, ↓wS_retL, ↓wFnc_succ, ↓wFnc_fnc, ↓wCaps_nil, ↓wCaps_cons, ite_true, ite_false, Bool.false_eq_true, decide_eq_true_eq, ↓reduceIte]
      exact ⟨by decide, rfl⟩
    · have et : inF x A = (ins A).any (inF x) := by
        cases A with
        | word w ts => exact absurd (kd_word.mpr ⟨w, ts, rfl⟩) hw
        | _ => simp [inF, tmsF, ins]
      simp only [↓wSl_tl, rest_ins hw, ↓WS, ↓wE_callv, ↓wE_callF, ↓wS_retL, ↓wFnc_succ, ↓wFnc_fnc, ↓wCaps_nil, ↓wCaps_cons, ite_true, ite_false, Bool.false_eq_true, decide_eq_true_eq, ↓reduceIte]
      refine wFor_map enc (fun xs δ => inF x A = xs.any (inF x) ∧ (∀ B ∈ xs, B ∈ ins A) ∧ ∃ s : Sl, δ = [.val (.tup (.str (kd A) :: (ins A).map enc)), .val (.str x), s]) ?_ ?_ _ _ ⟨et, fun _ h => h, _, rfl⟩
      · rintro B xs δ ⟨e, hB, s, rfl⟩
        have h1 := ins_ht (hB B List.mem_cons_self)
        rw [List.any_cons] at e
        simp only [↓wRun_eq (r_inS x n B (by omega)), ↓WS, ↓wE_callv, ↓wE_callF, ↓wS_retL, ↓wFnc_succ, ↓wFnc_fnc, ↓wCaps_nil, ↓wCaps_cons, ite_true, ite_false, Bool.false_eq_true, decide_eq_true_eq, ↓reduceIte]
        cases q : inF x B
        · rw [q, Bool.false_or] at e
          exact ⟨e, fun C hC => hB C (List.mem_cons_of_mem _ hC), _, rfl⟩
        · rw [q] at e
          simp [e]
      · rintro δ ⟨e, _, s, rfl⟩
        simp only [↓WS, ↓wE_callv, ↓wE_callF, ↓wS_retL, ↓wFnc_succ, ↓wFnc_fnc, ↓wCaps_nil, ↓wCaps_cons, ite_true, ite_false, Bool.false_eq_true, decide_eq_true_eq, ↓reduceIte]
        rw [e]
        rfl
end P1
end
section
namespace P1
open PySem L2 PP
inductive Tr where
  | close | r1 (d : Str) (s : F) (n : Str) (a : Tr) | r2 (d : Str) (s : F) (n : Str) (a b : Tr) | r3 (d : Str) (s : F) (n : Str) (a b c : Tr) | cut (s : F) (a b : Tr)
inductive Hd where
  | close | rule (d : Str) (s : F) (n : Str) | cut (s : F)
noncomputable def kids : Tr → List Tr
  | .close => []
  | .r1 _ _ _ a => [a]
  | .r2 _ _ _ a b => [a, b]
  | .r3 _ _ _ a b c => [a, b, c]
  | .cut _ a b => [a, b]
noncomputable def hd : Tr → Hd
  | .close => .close
  | .r1 d s n _ | .r2 d s n _ _ | .r3 d s n _ _ _ => .rule d s n
  | .cut s _ _ => .cut s
noncomputable def encH : Hd → List D → D
  | .close, _ => .tup [.str "close"]
  | .rule d s n, ks => .tup [.str "rule", .str d, enc s, .str n, .tup ks]
  | .cut s, ks => .tup [.str "cut", enc s, .tup ks]
noncomputable def encT : Tr → D
  | .close => encH .close []
  | .r1 d s n a => encH (.rule d s n) [encT a]
  | .r2 d s n a b => encH (.rule d s n) [encT a, encT b]
  | .r3 d s n a b c => encH (.rule d s n) [encT a, encT b, encT c]
  | .cut s a b => encH (.cut s) [encT a, encT b]
theorem encT_H (t : Tr) : encT t = encH (hd t) ((kids t).map encT) := by cases t <;> rfl
noncomputable def mx : List Nat → Nat
  | [] => 0
  | n :: ns => max n (mx ns)
noncomputable def hN : Tr → Nat
  | .close => 1
  | .r1 _ _ _ a => 1 + mx [hN a]
  | .r2 _ _ _ a b => 1 + mx [hN a, hN b]
  | .r3 _ _ _ a b c => 1 + mx [hN a, hN b, hN c]
  | .cut _ a b => 1 + mx [hN a, hN b]
theorem hN_kids (t : Tr) : hN t = 1 + mx ((kids t).map hN) := by cases t <;> rfl
theorem mx_le {x : Nat} : ∀ {l : List Nat}, x ∈ l → x ≤ mx l
  | y :: l, h => by
    rcases List.mem_cons.mp h with rfl | h
    · exact Nat.le_max_left _ _
    · exact Nat.le_trans (mx_le h) (Nat.le_max_right _ _)
theorem kid_hN {t k : Tr} (h : k ∈ kids t) : hN k + 1 ≤ hN t := by
  have := mx_le (List.mem_map_of_mem (f := hN) h)
  rw [hN_kids t]
  omega
theorem kids_len (t : Tr) : (kids t).length ≤ 3 := by cases t <;> simp [kids]
noncomputable def okH (nms : List Str) : Hd → Prop
  | .close => True
  | .rule _ s n => okF nms 3 s ∧ (n = "" ∨ n ∈ nms)
  | .cut s => okF nms 3 s
noncomputable def okT (nms : List Str) : Tr → Prop
  | .close => True
  | .r1 d s n a => okH nms (.rule d s n) ∧ okT nms a
  | .r2 d s n a b => okH nms (.rule d s n) ∧ okT nms a ∧ okT nms b
  | .r3 d s n a b c => okH nms (.rule d s n) ∧ okT nms a ∧ okT nms b ∧ okT nms c
  | .cut s a b => okH nms (.cut s) ∧ okT nms a ∧ okT nms b
theorem okT_kids {nms : List Str} (t : Tr) : okT nms t ↔ okH nms (hd t) ∧ ∀ k ∈ kids t, okT nms k := by
  cases t <;> simp [okT, okH, hd, kids]
noncomputable def chH (o n : Str) : Hd → Hd
  | .close => .close
  | .rule d s m => .rule d (ren o n s) (rn o n m)
  | .cut s => .cut (ren o n s)
noncomputable def chT (o n : Str) : Tr → Tr
  | .close => .close
  | .r1 d s m a => .r1 d (ren o n s) (rn o n m) (chT o n a)
  | .r2 d s m a b => .r2 d (ren o n s) (rn o n m) (chT o n a) (chT o n b)
  | .r3 d s m a b c => .r3 d (ren o n s) (rn o n m) (chT o n a) (chT o n b) (chT o n c)
  | .cut s a b => .cut (ren o n s) (chT o n a) (chT o n b)
theorem ch_hd (o n : Str) (t : Tr) : hd (chT o n t) = chH o n (hd t) := by cases t <;> rfl
theorem ch_kids (o n : Str) (t : Tr) : kids (chT o n t) = (kids t).map (chT o n) := by cases t <;> rfl
theorem ch_enc (o n : Str) (t : Tr) : encT (chT o n t) = encH (chH o n (hd t)) ((kids t).map fun k => encT (chT o n k)) := by
  rw [encT_H, ch_hd, ch_kids, List.map_map]
  rfl
theorem ch_hN (o n : Str) : ∀ t : Tr, hN (chT o n t) = hN t
  | .close => rfl
  | .r1 _ _ _ a => by simp only [chT, hN, ch_hN o n a]
  | .r2 _ _ _ a b => by simp only [chT, hN, ch_hN o n a, ch_hN o n b]
  | .r3 _ _ _ a b c => by simp only [chT, hN, ch_hN o n a, ch_hN o n b, ch_hN o n c]
  | .cut _ a b => by simp only [chT, hN, ch_hN o n a, ch_hN o n b]
noncomputable def smH : Hd → Prop
  | .close => True
  | .rule _ s _ | .cut s => ht s ≤ 4 ∧ (tmsF s).length ≤ 1000
noncomputable def smT : Tr → Prop
  | .close => True
  | .r1 d s n a => smH (.rule d s n) ∧ smT a
  | .r2 d s n a b => smH (.rule d s n) ∧ smT a ∧ smT b
  | .r3 d s n a b c => smH (.rule d s n) ∧ smT a ∧ smT b ∧ smT c
  | .cut s a b => smH (.cut s) ∧ smT a ∧ smT b
theorem smT_kids (t : Tr) : smT t ↔ smH (hd t) ∧ ∀ k ∈ kids t, smT k := by
  cases t <;> simp [smT, smH, hd, kids]
theorem smF {nms : List Str} {s : F} (h : okF nms 3 s) : ht s ≤ 4 ∧ (tmsF s).length ≤ 1000 := ⟨h.1, Nat.le_trans h.2.2 (by decide)⟩
theorem ok_smH {nms : List Str} : ∀ {h : Hd}, okH nms h → smH h
  | .close, _ => trivial
  | .rule _ _ _, h => smF h.1
  | .cut _, h => smF (show okF nms 3 _ from h)
theorem ok_smT {nms : List Str} : ∀ {t : Tr}, okT nms t → smT t
  | .close, _ => trivial
  | .r1 _ _ _ _, h => ⟨ok_smH h.1, ok_smT h.2⟩
  | .r2 _ _ _ _ _, h => ⟨ok_smH h.1, ok_smT h.2.1, ok_smT h.2.2⟩
  | .r3 _ _ _ _ _ _, h => ⟨ok_smH h.1, ok_smT h.2.1, ok_smT h.2.2.1, ok_smT h.2.2.2⟩
  | .cut _ _ _, h => ⟨ok_smH h.1, ok_smT h.2.1, ok_smT h.2.2⟩
theorem ch_sm (o n : Str) {t : Tr} (h : smT t) : smT (chT o n t) := by
  have key : ∀ {s : F}, ht s ≤ 4 ∧ (tmsF s).length ≤ 1000 → ht (ren o n s) ≤ 4 ∧ (tmsF (ren o n s)).length ≤ 1000 := fun h => by
    rw [ren_ht, ren_tms, List.length_map]; exact h
  induction t with
  | close => trivial
  | r1 d s m a i1 => exact ⟨key h.1, i1 h.2⟩
  | r2 d s m a b i1 i2 => exact ⟨key h.1, i1 h.2.1, i2 h.2.2⟩
  | r3 d s m a b c i1 i2 i3 => exact ⟨key h.1, i1 h.2.1, i2 h.2.2.1, i3 h.2.2.2⟩
  | cut s a b i1 i2 => exact ⟨key h.1, i1 h.2.1, i2 h.2.2⟩
theorem wE_g2 {f : Nat → List D → Option D} {h : Nat → Bool} {δ : PP.Loc} {Q : D → PP.Loc → Prop} : wE ⟨f, gls, h⟩ (.glob 2) δ Q ↔ Q (.tup [.str "close"]) δ := by
  rw [wE_glob]
  exact ⟨fun ⟨_, e, q⟩ => by cases e; exact q, fun q => ⟨_, rfl, q⟩⟩
theorem eq_rc : (("rule" : Str) == "close") = false := by decide +kernel
theorem eq_cc : (("close" : Str) == "close") = true := by decide +kernel
theorem eq_tc : (("cut" : Str) == "close") = false := by decide +kernel
theorem e_rr : (("rule" : Str) == "rule") = true := by decide +kernel
theorem e_cr : (("cut" : Str) == "rule") = false := by decide +kernel
theorem e_cc : (("cut" : Str) == "cut") = true := by decide +kernel
theorem e_rc : (("rule" : Str) == "cut") = false := by decide +kernel
theorem e_lr : (("close" : Str) == "rule") = false := by decide +kernel
theorem e_lc : (("close" : Str) == "cut") = false := by decide +kernel
theorem wCmp_eqC {a : Str} {ds : List D} {Q : Bool → Prop} : wCmp .eq (.tup (.str a :: ds)) (.tup [.str "close"]) Q ↔ Q (a == "close" && ds.isEmpty) := by
  have h1 : depOk (.tup (.str a :: ds)) (.tup [.str "close"]) = true := by
    unfold depOk kin
    have : dep (.tup [.str "close"]) = 1 := by simp [dep, depL]
    rw [this]
    simp
    omega
  have h2 : eqD (.tup (.str a :: ds)) (.tup [.str "close"]) = (a == "close" && ds.isEmpty) := by
    cases ds <;> simp [eqD, eqDs]
  unfold wCmp cmpD
  simp only
  rw [if_pos h1, h2]
  exact ⟨fun ⟨_, e, q⟩ => by cases e; exact q, fun q => ⟨_, rfl, q⟩⟩
theorem r_kids (n : Nat) (t : Tr) : PP.run Gs gls (n + 1) 3 [encT t] = some (.tup ((kids t).map encT)) := by
  apply wRun_out
  rw [encT_H]
  have hc : hd t = .close → kids t = [] := by cases t <;> simp [hd, kids]
  cases q : hd t <;> unfold encH
  · refine wRun_def d_kids_of rfl rfl rfl ?_; simp only [d_kids_of, init, List.map_cons, List.map_nil, List.cons_append, List.nil_append, List.append_nil, List.length_cons, List.length_nil, List.replicate, Nat.reduceAdd, Nat.reduceSub]
    simp only [↓wE_g2, ↓wCmp_eqC, eq_cc, List.isEmpty_nil, Bool.and_self, List.length_nil, ↓WS, ↓wE_callv, ↓wE_callF, ↓wS_retL, ↓wFnc_succ, ↓wFnc_fnc, ↓wCaps_nil, ↓wCaps_cons, ite_true, ite_false, Bool.false_eq_true, decide_eq_true_eq, ↓reduceIte]
    exact ⟨by decide, by rw [hc q]; rfl⟩
  all_goals
    refine wRun_def d_kids_of rfl rfl rfl ?_; simp only [d_kids_of, init, List.map_cons, List.map_nil, List.cons_append, List.nil_append, List.append_nil, List.length_cons, List.length_nil, List.replicate, Nat.reduceAdd, Nat.reduceSub]
    simp only [↓wE_g2, ↓wCmp_eqC, eq_rc, eq_tc, Bool.false_and, ↓wIx_tup, ↓WS, ↓wE_callv, ↓wE_callF, ↓wS_retL, ↓wFnc_succ, ↓wFnc_fnc, ↓wCaps_nil, ↓wCaps_cons, ite_true, ite_false, Bool.false_eq_true, decide_eq_true_eq, ↓reduceIte]
    exact ⟨_, rfl, rfl⟩
theorem r_ch (o nw : Str) : ∀ (n : Nat) (t : Tr), hN t + 6 ≤ n → smT t → PP.run Gs gls n 4 [encT t, .str o, .str nw] = some (encT (chT o nw t))
  | 0, t, h, _ => by omega
  | n + 1, t, h, sm => by
    obtain ⟨n, rfl⟩ : ∃ m, n = m + 1 := ⟨n - 1, by omega⟩
    obtain ⟨sh, sk⟩ := (smT_kids t).mp sm
    apply wRun_out
    refine wRun_def d_changed rfl rfl rfl ?_; simp only [d_changed, init, List.map_cons, List.map_nil, List.cons_append, List.nil_append, List.append_nil, List.length_cons, List.length_nil, List.replicate, Nat.reduceAdd, Nat.reduceSub]
    refine wSs_cut (R := fun δ => δ = [.val (encT t), .val (.str o), .val (.str nw), .val (.lst ((kids t).map fun k => encT (chT o nw k))), .no, .no, .no]) 1 _ _ ?_ ?_
    · simp only [takeS, ↓wRun_eq (r_kids _ _), ↓WS, ↓wE_callv, ↓wE_callF, ↓wS_retL, ↓wFnc_succ, ↓wFnc_fnc, ↓wCaps_nil, ↓wCaps_cons, ite_true, ite_false, Bool.false_eq_true, decide_eq_true_eq, ↓reduceIte]
      refine wComp_map encT (fun _ => true) (fun k => encT (chT o nw k)) (kids t) ?_ ?_
      · intro k hk
        have hk1 := kid_hN hk
        simp only [List.cons_append, List.nil_append, List.replicate, ↓wRun_eq (r_ch o nw (n + 1) k (by omega) (sk k hk)), ↓WS, ↓wE_callv, ↓wE_callF, ↓wS_retL, ↓wFnc_succ, ↓wFnc_fnc, ↓wCaps_nil, ↓wCaps_cons, ite_true, ite_false, Bool.false_eq_true, decide_eq_true_eq, ↓reduceIte]
        exact ⟨trivial, trivial, rfl⟩
      · rw [List.filter_eq_self.mpr fun _ _ => rfl]
        have := kids_len t
        refine ⟨by rw [List.length_map]; exact small (by omega), ?_⟩
        simp only [↓nxS_nx, ↓WS, ↓wE_callv, ↓wE_callF, ↓wS_retL, ↓wFnc_succ, ↓wFnc_fnc, ↓wCaps_nil, ↓wCaps_cons, ite_true, ite_false, Bool.false_eq_true, decide_eq_true_eq, ↓reduceIte]
    rintro _ rfl
    rw [ch_enc, encT_H]
    simp only [dropS]
    have hp : 1 ≤ hN t := by rw [hN_kids]; omega
    cases q : hd t with
    | close =>
      simp only [encH, chH, e_lr, e_lc, ↓WS, ↓wE_callv, ↓wE_callF, ↓wS_retL, ↓wFnc_succ, ↓wFnc_fnc, ↓wCaps_nil, ↓wCaps_cons, ite_true, ite_false, Bool.false_eq_true, decide_eq_true_eq, ↓reduceIte]
    | rule d s m =>
      rw [q] at sh
      simp only [encH, chH]
      refine wSs_cons.mpr (one_if (p := true) (fun h => by simp only [e_rr, ↓WS, ↓wE_callv, ↓wE_callF, ↓wS_retL, ↓wFnc_succ, ↓wFnc_fnc, ↓wCaps_nil, ↓wCaps_cons, ite_true, ite_false, Bool.false_eq_true, decide_eq_true_eq, ↓reduceIte]; exact h) (fun _ => ?_) fun h => by cases h)
      refine wSs_run 1 [.val (.tup [.str "rule", .str d, enc s, .str m, .tup ((kids t).map encT)]), .val (.str o), .val (.str nw), .val (.lst ((kids t).map fun k => encT (chT o nw k))), .val (.str d), .val (enc s), .val (.str m)] (by kernel_rfl) ?_
      simp only [dropS, ↓wRun_eq (r_renamed o nw n s (by have := sh.1; omega) sh.2), List.length_cons, List.length_nil, ↓WS, ↓wE_callv, ↓wE_callF, ↓wS_retL, ↓wFnc_succ, ↓wFnc_fnc, ↓wCaps_nil, ↓wCaps_cons, ite_true, ite_false, Bool.false_eq_true, decide_eq_true_eq, ↓reduceIte]
      refine iteI (fun z => ?_) fun z => ?_
      · exact ⟨by decide, by unfold rn; rw [if_pos z]⟩
      · exact ⟨by decide, by unfold rn; rw [if_neg z]⟩
    | cut s =>
      rw [q] at sh
      simp only [encH, chH, e_cr, e_cc, ↓wIx_tup1, ↓wRun_eq (r_renamed o nw n s (by have := sh.1; omega) sh.2), List.length_cons, List.length_nil, ↓WS, ↓wE_callv, ↓wE_callF, ↓wS_retL, ↓wFnc_succ, ↓wFnc_fnc, ↓wCaps_nil, ↓wCaps_cons, ite_true, ite_false, Bool.false_eq_true, decide_eq_true_eq, ↓reduceIte]
      exact ⟨by decide, trivial⟩
theorem dep_kids : ∀ (l : List Tr) (k : Nat), (∀ t ∈ l, dep (encT t) ≤ k) → depL (l.map encT) ≤ k
  | [], k, _ => by simp [depL]
  | t :: l, k, h => by
    have h1 := h t List.mem_cons_self
    have h2 := dep_kids l k fun u hu => h u (List.mem_cons_of_mem _ hu)
    simp only [List.map_cons, depL]
    omega
theorem dep_encH (h : Hd) (sm : smH h) (l : List D) (k : Nat) (hk : depL l ≤ k) : dep (encH h l) ≤ max 6 (k + 2) := by
  cases h with
  | close => simp [encH, dep, depL]; omega
  | rule d s m =>
    have h1 := dep_enc s
    have h2 := sm.1
    simp only [encH, dep, depL]
    omega
  | cut s =>
    have h1 := dep_enc s
    have h2 := sm.1
    simp only [encH, dep, depL]
    omega
theorem dep_encT : ∀ (k : Nat) (t : Tr), hN t ≤ k → smT t → dep (encT t) ≤ 2 * k + 6
  | 0, t, h, _ => by have := hN_kids t; omega
  | k + 1, t, h, sm => by
    obtain ⟨sh, sk⟩ := (smT_kids t).mp sm
    rw [encT_H]
    have := dep_encH (hd t) sh ((kids t).map encT) (2 * k + 6) (dep_kids _ _ fun u hu => dep_encT k u (by have := kid_hN hu; omega) (sk u hu))
    omega
theorem ne_D {d : D} (h : dep d ≤ 150) (hk : kin d d = true) {Q : Bool → Prop} : wCmp .ne d d Q ↔ Q false := by
  have e1 : depOk d d = true := by
    unfold depOk
    rw [hk]
    simp; omega
  have e2 : eqD d d = true := (letI : Tbs := ⟨[], []⟩; eqD_refl _ (by omega))
  unfold wCmp
  simp only [cmpD, e1, e2, if_true, Bool.not_true]
  exact ⟨fun ⟨_, e, q⟩ => by cases e; exact q, fun q => ⟨_, rfl, q⟩⟩
theorem ne_T {t : Tr} (h : hN t ≤ 60) (sm : smT t) {Q : Bool → Prop} : wCmp .ne (encT t) (encT t) Q ↔ Q false := ne_D (by have := dep_encT 60 t h sm; omega) (by cases t <;> rfl)
theorem ne_F {A : F} (h : ht A ≤ 60) {Q : Bool → Prop} : wCmp .ne (enc A) (enc A) Q ↔ Q false := ne_D (by have := dep_enc A; omega) (by cases A <;> rfl)
theorem ne_S {a : Str} {Q : Bool → Prop} : wCmp .ne (.str a) (.str a) Q ↔ Q false := ne_D (by rw [dep_str]; omega) rfl
theorem ne_I {a : Int} {Q : Bool → Prop} : wCmp .ne (.int a) (.int a) Q ↔ Q false := ne_D (by unfold dep; omega) rfl
end P1
end
section
namespace P1
open PySem L2 PP
theorem zip_map {α : Type} (f g : α → D) : ∀ l : List α, zipD (l.map f) (l.map g) = l.map fun k => .tup [f k, g k]
  | [] => rfl
  | x :: l => by
    have := zip_map f g l
    unfold zipD at this ⊢
    simp only [List.map_cons, List.zip_cons_cons, this]
theorem is_tup {ds : List D} {Q : D → Prop} : wBlt .isTup [.tup ds] Q ↔ Q (.bl true) := by simp [wBlt, bltD, isTupD]
noncomputable def BC : Ss := dropS 4 d__law_is_changed.body
theorem r_isE (o nw : Str) (n : Nat) (x y : List D) (ks : List Tr) (s4 s5 s6 : Sl) (hx : atI x (-1) = some (.tup (ks.map fun k => encT (chT o nw k)))) (hy : atI y (-1) = some (.tup (ks.map encT)))
    (hk : ∀ k ∈ ks, PP.run Gs gls n 12 [encT (chT o nw k), encT k, .str o, .str nw] = some (.bl true)) :
    wSs ⟨PP.run Gs gls n, gls, hfs Gs⟩ BC [.val (.tup x), .val (.tup y), .val (.str o), .val (.str nw), s4, s5, s6] (retS fun d => d = .bl true) := by
  unfold BC d__law_is_changed
  simp only [dropS]
  refine wSs_cons.mpr (one_if (p := false) (fun h => ?_) (fun h => by cases h) fun _ => wSs_nil.mpr ?_)
  · simp only [↓wIx_tup, ↓WS, ↓wE_callv, ↓wE_callF, ↓wS_retL, ↓wFnc_succ, ↓wFnc_fnc, ↓wCaps_nil, ↓wCaps_cons, ite_true, ite_false, Bool.false_eq_true, decide_eq_true_eq, ↓reduceIte]
    refine ⟨_, hx, ?_⟩
    simp only [↓is_tup, ↓wIx_tup, Bool.not_true, ↓WS, ↓wE_callv, ↓wE_callF, ↓wS_retL, ↓wFnc_succ, ↓wFnc_fnc, ↓wCaps_nil, ↓wCaps_cons, ite_true, ite_false, Bool.false_eq_true, decide_eq_true_eq, ↓reduceIte]
    refine ⟨_, hx, ?_⟩
    simp only [↓wIx_tup, List.length_map, ↓WS, ↓wE_callv, ↓wE_callF, ↓wS_retL, ↓wFnc_succ, ↓wFnc_fnc, ↓wCaps_nil, ↓wCaps_cons, ite_true, ite_false, Bool.false_eq_true, decide_eq_true_eq, ↓reduceIte]
    refine ⟨_, hy, ?_⟩
    simp only [↓ne_I, List.length_map, ↓WS, ↓wE_callv, ↓wE_callF, ↓wS_retL, ↓wFnc_succ, ↓wFnc_fnc, ↓wCaps_nil, ↓wCaps_cons, ite_true, ite_false, Bool.false_eq_true, decide_eq_true_eq, ↓reduceIte]
    exact h
  simp only [↓wS_forZ, ↓wIx_tup, ↓WS, ↓wE_callv, ↓wE_callF, ↓wS_retL, ↓wFnc_succ, ↓wFnc_fnc, ↓wCaps_nil, ↓wCaps_cons, ite_true, ite_false, Bool.false_eq_true, decide_eq_true_eq, ↓reduceIte]
  refine ⟨_, hx, _, hy, _, _, _, _, rfl, rfl, rfl, ?_⟩
  rw [zip_map]
  refine wFor_map _ (fun xs δ => (∀ k ∈ xs, k ∈ ks) ∧ ∃ s5 s6 : Sl, δ = [.val (.tup x), .val (.tup y), .val (.str o), .val (.str nw), s4, s5, s6]) ?_ ?_ _ _ ⟨fun _ h => h, _, _, rfl⟩
  · rintro k xs δ ⟨hm, s5, s6, rfl⟩
    simp only [↓wRun_eq (hk k (hm k List.mem_cons_self)), Bool.not_true, ↓WS, ↓wE_callv, ↓wE_callF, ↓wS_retL, ↓wFnc_succ, ↓wFnc_fnc, ↓wCaps_nil, ↓wCaps_cons, ite_true, ite_false, Bool.false_eq_true, decide_eq_true_eq, ↓reduceIte]
    exact ⟨fun q hq => hm q (List.mem_cons_of_mem _ hq), _, _, rfl⟩
  · rintro δ ⟨_, s5, s6, rfl⟩
    simp only [↓WS, ↓wE_callv, ↓wE_callF, ↓wS_retL, ↓wFnc_succ, ↓wFnc_fnc, ↓wCaps_nil, ↓wCaps_cons, ite_true, ite_false, Bool.false_eq_true, decide_eq_true_eq, ↓reduceIte]
theorem r_isch (o nw : Str) : ∀ (n : Nat) (t : Tr), hN t + 6 ≤ n → smT t → PP.run Gs gls n 12 [encT (chT o nw t), encT t, .str o, .str nw] = some (.bl true)
  | 0, t, h, _ => by omega
  | n + 1, t, h, sm => by
    obtain ⟨sh, sk⟩ := (smT_kids t).mp sm
    have hk : ∀ k ∈ kids t, PP.run Gs gls n 12 [encT (chT o nw k), encT k, .str o, .str nw] = some (.bl true) := fun k hk => r_isch o nw n k (by have := kid_hN hk; omega) (sk k hk)
    rw [ch_enc, encT_H]
    generalize hd t = e at sh
    generalize kids t = ks at hk
    cases e with
    | close => kernel_rfl
    | rule d s m =>
      have hs : ht (ren o nw s) ≤ 60 := by rw [ren_ht]; have := sh.1; omega
      have lr := r_lren o nw n s (by have := sh.1; omega) sh.2
      apply wRun_out
      simp only [encH, chH]
      refine wRun_def d__law_is_changed rfl rfl rfl ?_
      refine wSs_run 2 [.val (.tup [.str "rule", .str d, enc (ren o nw s), .str (rn o nw m), .tup (ks.map fun k => encT (chT o nw k))]), .val (.tup [.str "rule", .str d, enc s, .str m, .tup (ks.map encT)]), .val (.str o), .val (.str nw), .no, .no, .no] (by kernel_rfl) ?_
      refine wSs_cut (R := fun δ => ∃ s4 : Sl, δ = [.val (.tup [.str "rule", .str d, enc (ren o nw s), .str (rn o nw m), .tup (ks.map fun k => encT (chT o nw k))]), .val (.tup [.str "rule", .str d, enc s, .str m, .tup (ks.map encT)]), .val (.str o), .val (.str nw), s4, .no, .no]) 2 _ _ ?_ ?_
      · unfold d__law_is_changed
        simp only [takeS, dropS]
        refine wSs_cons.mpr (one_if (p := false) (fun h => ?_) (fun h => by cases h) fun _ => wSs_nil.mpr ?_)
        · simp only [e_rc, ↓WS, ↓wE_callv, ↓wE_callF, ↓wS_retL, ↓wFnc_succ, ↓wFnc_fnc, ↓wCaps_nil, ↓wCaps_cons, ite_true, ite_false, Bool.false_eq_true, decide_eq_true_eq, ↓reduceIte]
          refine wIx_tup.mpr ⟨_, rfl, ?_⟩
          refine wIx_tup.mpr ⟨_, rfl, ?_⟩
          exact (wRun_eq lr).mpr ((ne_F hs).mpr h)
        · refine wSs_cons.mpr (one_if (p := true) (fun h => by simp only [e_rr, ↓WS, ↓wE_callv, ↓wE_callF, ↓wS_retL, ↓wFnc_succ, ↓wFnc_fnc, ↓wCaps_nil, ↓wCaps_cons, ite_true, ite_false, Bool.false_eq_true, decide_eq_true_eq, ↓reduceIte]; exact h) (fun _ => ?_) fun h => by cases h)
          refine wSs_run 1 [.val (.tup [.str "rule", .str d, enc (ren o nw s), .str (rn o nw m), .tup (ks.map fun k => encT (chT o nw k))]), .val (.tup [.str "rule", .str d, enc s, .str m, .tup (ks.map encT)]), .val (.str o), .val (.str nw), .val (.str m), .no, .no] (by kernel_rfl) ?_
          refine wSs_cut (R := fun δ => δ = [.val (.tup [.str "rule", .str d, enc (ren o nw s), .str (rn o nw m), .tup (ks.map fun k => encT (chT o nw k))]), .val (.tup [.str "rule", .str d, enc s, .str m, .tup (ks.map encT)]), .val (.str o), .val (.str nw), .val (.str (rn o nw m)), .no, .no]) 1 _ _ ?_ ?_
          · simp only [takeS, dropS, ↓nxS_nx, ↓WS, ↓wE_callv, ↓wE_callF, ↓wS_retL, ↓wFnc_succ, ↓wFnc_fnc, ↓wCaps_nil, ↓wCaps_cons, ite_true, ite_false, Bool.false_eq_true, decide_eq_true_eq, ↓reduceIte]
            unfold rn
            refine iteI (fun z => by rw [if_pos z]) fun z => by rw [if_neg z]
          · rintro _ rfl
            simp only [dropS]
            refine wSs_cons.mpr (or_if (p := false) (q := false) (fun h => ?_) (fun h => ?_) (fun h => by rcases h with h | h <;> cases h) fun _ _ => wSs_nil.mpr ?_)
            · simp only [↓wIx_tup1, ↓ne_S, ↓WS, ↓wE_callv, ↓wE_callF, ↓wS_retL, ↓wFnc_succ, ↓wFnc_fnc, ↓wCaps_nil, ↓wCaps_cons, ite_true, ite_false, Bool.false_eq_true, decide_eq_true_eq, ↓reduceIte]
              exact h
            · simp only [↓wIx_tup, ↓WS, ↓wE_callv, ↓wE_callF, ↓wS_retL, ↓wFnc_succ, ↓wFnc_fnc, ↓wCaps_nil, ↓wCaps_cons, ite_true, ite_false, Bool.false_eq_true, decide_eq_true_eq, ↓reduceIte]
              refine ⟨_, rfl, ?_⟩
              exact ne_S.mpr h
            · exact wSs_nil.mpr (wSs_nil.mpr ⟨_, rfl⟩)
      · rintro _ ⟨s4, rfl⟩
        exact r_isE o nw n _ _ ks s4 .no .no rfl rfl hk
    | cut s =>
      have hs : ht (ren o nw s) ≤ 60 := by rw [ren_ht]; have := sh.1; omega
      have lr := r_lren o nw n s (by have := sh.1; omega) sh.2
      apply wRun_out
      simp only [encH, chH]
      refine wRun_def d__law_is_changed rfl rfl rfl ?_
      refine wSs_run 2 [.val (.tup [.str "cut", enc (ren o nw s), .tup (ks.map fun k => encT (chT o nw k))]), .val (.tup [.str "cut", enc s, .tup (ks.map encT)]), .val (.str o), .val (.str nw), .no, .no, .no] (by kernel_rfl) ?_
      unfold d__law_is_changed
      simp only [dropS]
      refine wSs_cons.mpr (one_if (p := false) (fun h => ?_) (fun h => by cases h) fun _ => wSs_nil.mpr ?_)
      · simp only [e_cc, ↓WS, ↓wE_callv, ↓wE_callF, ↓wS_retL, ↓wFnc_succ, ↓wFnc_fnc, ↓wCaps_nil, ↓wCaps_cons, ite_true, ite_false, Bool.false_eq_true, decide_eq_true_eq, ↓reduceIte]
        refine wIx_tup.mpr ⟨_, rfl, ?_⟩
        refine wIx_tup.mpr ⟨_, rfl, ?_⟩
        exact (wRun_eq lr).mpr ((ne_F hs).mpr h)
      refine wSs_cons.mpr (one_if (p := false) (fun h => by simp only [e_cr, ↓WS, ↓wE_callv, ↓wE_callF, ↓wS_retL, ↓wFnc_succ, ↓wFnc_fnc, ↓wCaps_nil, ↓wCaps_cons, ite_true, ite_false, Bool.false_eq_true, decide_eq_true_eq, ↓reduceIte]; exact h) (fun h => by cases h) fun _ => wSs_nil.mpr ?_)
      exact r_isE o nw n _ _ ks .no .no .no rfl rfl hk
noncomputable def hasH (x : Str) : Hd → Bool
  | .close => false
  | .rule _ s m => m == x || inF x s
  | .cut s => inF x s
noncomputable def hasT (x : Str) : Tr → Bool
  | .close => false
  | .r1 d s m a => hasH x (.rule d s m) || hasT x a
  | .r2 d s m a b => hasH x (.rule d s m) || (hasT x a || hasT x b)
  | .r3 d s m a b c => hasH x (.rule d s m) || (hasT x a || (hasT x b || hasT x c))
  | .cut s a b => hasH x (.cut s) || (hasT x a || hasT x b)
theorem has_kids (x : Str) (t : Tr) : hasT x t = (hasH x (hd t) || (kids t).any (hasT x)) := by cases t <;> simp [hasT, hasH, hd, kids]
theorem r_hasE (x : Str) (n : Nat) (h : Hd) (ks : List Tr) (u : List D) (hu : atI u (-1) = some (.tup (ks.map encT))) (hk : ∀ k ∈ ks, PP.run Gs gls n 14 [encT k, .str x] = some (.bl (hasT x k))) (s : Sl) :
    wSs ⟨PP.run Gs gls n, gls, hfs Gs⟩ (dropS 2 d__law_has.body) [.val (.tup u), .val (.str x), s] (retS fun d => d = .bl (ks.any (hasT x))) := by
  unfold d__law_has
  simp only [dropS, ↓wIx_tup, ↓WS, ↓wE_callv, ↓wE_callF, ↓wS_retL, ↓wFnc_succ, ↓wFnc_fnc, ↓wCaps_nil, ↓wCaps_cons, ite_true, ite_false, Bool.false_eq_true, decide_eq_true_eq, ↓reduceIte]
  refine ⟨_, hu, ?_⟩
  simp only [↓WS, ↓wE_callv, ↓wE_callF, ↓wS_retL, ↓wFnc_succ, ↓wFnc_fnc, ↓wCaps_nil, ↓wCaps_cons, ite_true, ite_false, Bool.false_eq_true, decide_eq_true_eq, ↓reduceIte]
  refine wFor_map encT (fun xs δ => ks.any (hasT x) = xs.any (hasT x) ∧ (∀ k ∈ xs, k ∈ ks) ∧ ∃ s : Sl, δ = [.val (.tup u), .val (.str x), s]) ?_ ?_ _ _ ⟨rfl, fun _ h => h, _, rfl⟩
  · rintro k xs δ ⟨e, hB, s, rfl⟩
    rw [List.any_cons] at e
    simp only [↓wRun_eq (hk k (hB k List.mem_cons_self)), ↓WS, ↓wE_callv, ↓wE_callF, ↓wS_retL, ↓wFnc_succ, ↓wFnc_fnc, ↓wCaps_nil, ↓wCaps_cons, ite_true, ite_false, Bool.false_eq_true, decide_eq_true_eq, ↓reduceIte]
    cases q : hasT x k
    · rw [q, Bool.false_or] at e
      exact ⟨e, fun C hC => hB C (List.mem_cons_of_mem _ hC), _, rfl⟩
    · rw [q] at e
      simp [e]
  · rintro δ ⟨e, _, s, rfl⟩
    simp only [↓WS, ↓wE_callv, ↓wE_callF, ↓wS_retL, ↓wFnc_succ, ↓wFnc_fnc, ↓wCaps_nil, ↓wCaps_cons, ite_true, ite_false, Bool.false_eq_true, decide_eq_true_eq, ↓reduceIte]
    rw [e]
    rfl
theorem r_has (x : Str) : ∀ (n : Nat) (t : Tr), hN t + 6 ≤ n → smT t → PP.run Gs gls n 14 [encT t, .str x] = some (.bl (hasT x t))
  | 0, t, h, _ => by omega
  | n + 1, t, h, sm => by
    obtain ⟨sh, sk⟩ := (smT_kids t).mp sm
    have hk : ∀ k ∈ kids t, PP.run Gs gls n 14 [encT k, .str x] = some (.bl (hasT x k)) := fun k hk => r_has x n k (by have := kid_hN hk; omega) (sk k hk)
    have hc : hd t = .close → kids t = [] := by cases t <;> simp [hd, kids]
    rw [has_kids, encT_H]
    generalize hd t = e at sh hc
    generalize kids t = ks at hk hc
    cases e with
    | close =>
      rw [hc rfl]
      kernel_rfl
    | rule d s m =>
      have li := r_inS x n s (by have := sh.1; omega)
      apply wRun_out
      simp only [encH, hasH]
      refine wRun_def d__law_has rfl rfl rfl ?_
      refine wSs_run 1 [.val (.tup [.str "rule", .str d, enc s, .str m, .tup (ks.map encT)]), .val (.str x), .no] (by kernel_rfl) ?_
      unfold d__law_has
      simp only [dropS]
      refine wSs_cons.mpr (one_if (p := m == x || inF x s) (fun h => ?_) (fun h => ?_) fun h => wSs_nil.mpr ?_)
      · simp only [e_rr, e_rc, ↓WS, ↓wE_callv, ↓wE_callF, ↓wS_retL, ↓wFnc_succ, ↓wFnc_fnc, ↓wCaps_nil, ↓wCaps_cons, ite_true, ite_false, Bool.false_eq_true, decide_eq_true_eq, ↓reduceIte]
        refine wIx_tup.mpr ⟨_, rfl, ?_⟩
        simp only [↓WS, ↓wE_callv, ↓wE_callF, ↓wS_retL, ↓wFnc_succ, ↓wFnc_fnc, ↓wCaps_nil, ↓wCaps_cons, ite_true, ite_false, Bool.false_eq_true, decide_eq_true_eq, ↓reduceIte]
        cases q : (m == x)
        · rw [q] at h
          refine wIx_tup.mpr ⟨_, rfl, ?_⟩
          exact (wRun_eq li).mpr (wTv_bl.mpr h)
        · rw [q] at h
          exact h
      · rw [h]; simp only [↓WS, ↓wE_callv, ↓wE_callF, ↓wS_retL, ↓wFnc_succ, ↓wFnc_fnc, ↓wCaps_nil, ↓wCaps_cons, ite_true, ite_false, Bool.false_eq_true, decide_eq_true_eq, ↓reduceIte]; rfl
      · rw [h]
        exact r_hasE x n (.rule d s m) ks _ rfl hk .no
    | cut s =>
      have li := r_inS x n s (by have := sh.1; omega)
      apply wRun_out
      simp only [encH, hasH]
      refine wRun_def d__law_has rfl rfl rfl ?_
      refine wSs_run 1 [.val (.tup [.str "cut", enc s, .tup (ks.map encT)]), .val (.str x), .no] (by kernel_rfl) ?_
      unfold d__law_has
      simp only [dropS]
      refine wSs_cons.mpr (one_if (p := inF x s) (fun h => ?_) (fun h => ?_) fun h => wSs_nil.mpr ?_)
      · simp only [e_cr, e_cc, ↓WS, ↓wE_callv, ↓wE_callF, ↓wS_retL, ↓wFnc_succ, ↓wFnc_fnc, ↓wCaps_nil, ↓wCaps_cons, ite_true, ite_false, Bool.false_eq_true, decide_eq_true_eq, ↓reduceIte]
        refine wIx_tup.mpr ⟨_, rfl, ?_⟩
        exact (wRun_eq li).mpr (wTv_bl.mpr h)
      · rw [h]; simp only [↓WS, ↓wE_callv, ↓wE_callF, ↓wS_retL, ↓wFnc_succ, ↓wFnc_fnc, ↓wCaps_nil, ↓wCaps_cons, ite_true, ite_false, Bool.false_eq_true, decide_eq_true_eq, ↓reduceIte]; rfl
      · rw [h]
        exact r_hasE x n (.cut s) ks _ rfl hk .no
end P1
end
section
namespace P1
open PySem L2 PP
noncomputable def nS (k : Nat) : Str := "n" ++ (toString (k : Int) : Str)
theorem nS_nd : ((List.range 100).map nS).Nodup := by decide +kernel
theorem nS_len : ∀ k : Nat, k < 100 → (toString (k : Int) : Str).length ≤ 2 := by decide +kernel
theorem pig : ∀ {l m : List Str}, l.Nodup → (∀ x ∈ l, x ∈ m) → l.length ≤ m.length
  | [], m, _, _ => Nat.zero_le _
  | x :: l, m, h, s => by
    have hx := s x List.mem_cons_self
    rw [List.nodup_cons] at h
    have := pig (m := m.erase x) h.2 fun y hy => (List.mem_erase_of_ne (fun e : y = x => h.1 (by rw [← e]; exact hy))).mpr (s y (List.mem_cons_of_mem _ hy))
    rw [List.length_erase_of_mem hx] at this
    have := List.length_pos_of_mem hx
    simp only [List.length_cons]
    omega
theorem few {ms : List Str} {i : Nat} (hi : i ≤ 100) (h : ∀ j < i, nS j ∈ ms) : i ≤ ms.length := by
  have e : (List.range i).map nS = ((List.range 100).map nS).take i := by rw [← List.map_take, List.take_range, Nat.min_eq_left hi]
  have := pig (l := (List.range i).map nS) (m := ms) (by rw [e]; exact (List.take_sublist _ _).nodup nS_nd) fun x hx => by
    obtain ⟨j, hj, rfl⟩ := List.mem_map.mp hx
    exact h j (by simpa using hj)
  simpa using this
theorem in_strs {ts : List Str} {o : Str} {Q : Bool → Prop} : wCmp .isin (.str o) (.lst (ts.map .str)) Q ↔ Q (ts.any fun t => t == o) := by
  unfold wCmp
  simp only [cmpD, inD, dep_str, Nat.zero_le, if_true, any_str]
  exact ⟨fun ⟨_, e, q⟩ => by cases e; exact q, fun q => ⟨_, rfl, q⟩⟩
theorem notin_strs {ts : List Str} {o : Str} {Q : Bool → Prop} : wCmp .notin (.str o) (.lst (ts.map .str)) Q ↔ Q (!ts.any fun t => t == o) := by
  unfold wCmp
  simp only [cmpD, inD, dep_str, Nat.zero_le, if_true, any_str, Option.map_some]
  exact ⟨fun ⟨_, e, q⟩ => by cases e; exact q, fun q => ⟨_, rfl, q⟩⟩
theorem any_in {ts : List Str} {o : Str} : (ts.any fun t => t == o) = true ↔ o ∈ ts := by
  rw [List.any_eq_true]
  exact ⟨fun ⟨x, hx, e⟩ => by rw [← eq_of_beq e]; exact hx, fun h => ⟨o, h, by simp⟩⟩
theorem any_out {ts : List Str} {o : Str} (h : o ∉ ts) : (ts.any fun t => t == o) = false := by
  cases e : ts.any fun t => t == o with
  | false => rfl
  | true => exact absurd (any_in.mp e) h
theorem n_len : ("n" : Str).length = 1 := by decide
theorem r_freshW (n : Nat) (ms : List Str) (hm : ms.length ≤ 90) (Q : Out → Prop) (q : ∀ m : Nat, m ≤ ms.length → (∀ j < m, nS j ∈ ms) → nS m ∉ ms → Q (.nx [.val (.lst (ms.map .str)), .val (.int m)])) : ∀ (f i : Nat), ms.length + 1 ≤ f + i → (∀ j < i, nS j ∈ ms) → i ≤ 100 →
    wWhile ⟨PP.run Gs gls n, gls, hfs Gs⟩ (.cmp .isin (.fstr "n" (.var 1)) (.var 0)) (.cons (.aug 1 .add (.int 1)) .nil) f [.val (.lst (ms.map .str)), .val (.int i)] Q := by
  intro f
  induction f with
  | zero =>
    intro i h hj hi
    have := few hi hj
    omega
  | succ f ih =>
    intro i h hj hi
    have hf := few hi hj
    have hl := nS_len i (by omega)
    rw [wWhile_succ]
    simp only [↓wE_fstr, ↓in_strs, n_len, ↓WS, ↓wE_callv, ↓wE_callF, ↓wS_retL, ↓wFnc_succ, ↓wFnc_fnc, ↓wCaps_nil, ↓wCaps_cons, ite_true, ite_false, Bool.false_eq_true, decide_eq_true_eq, ↓reduceIte]
    refine ⟨log_small (by omega) (by omega), small (by omega), iteI (fun h => ?_) fun h => ?_⟩
    · have hin : nS i ∈ ms := any_in.mp h
      exact ih (i + 1) (by omega) (fun j hj' => (Nat.lt_succ_iff_lt_or_eq.mp hj').elim (hj j) fun e => e ▸ hin) (by omega)
    · exact q i hf hj fun e => h (any_in.mpr e)
theorem r_fresh (n : Nat) (ms : List Str) (hm : ms.length ≤ 90) : wRun Gs gls (n + 1) 5 [.lst (ms.map .str)] fun d => ∃ m : Nat, d = .str (nS m) ∧ m ≤ ms.length ∧ (∀ j < m, nS j ∈ ms) ∧ nS m ∉ ms := by
  refine wRun_def d_fresh rfl rfl rfl ?_; simp only [d_fresh, init, List.map_cons, List.map_nil, List.cons_append, List.nil_append, List.append_nil, List.length_cons, List.length_nil, List.replicate, Nat.reduceAdd, Nat.reduceSub]
  simp only [↓WS, ↓wE_callv, ↓wE_callF, ↓wS_retL, ↓wFnc_succ, ↓wFnc_fnc, ↓wCaps_nil, ↓wCaps_cons, ite_true, ite_false, Bool.false_eq_true, decide_eq_true_eq, ↓reduceIte]
  refine r_freshW n ms hm _ (fun m h1 h2 h3 => ?_) 1000 0 (by omega) (fun j hj => by omega) (by omega)
  have hl := nS_len m (by omega)
  simp only [↓wE_fstr, n_len, ↓WS, ↓wE_callv, ↓wE_callF, ↓wS_retL, ↓wFnc_succ, ↓wFnc_fnc, ↓wCaps_nil, ↓wCaps_cons, ite_true, ite_false, Bool.false_eq_true, decide_eq_true_eq, ↓reduceIte]
  exact ⟨log_small (by omega) (by omega), small (by omega), m, rfl, h1, h2, h3⟩
theorem is_str {a : Str} {Q : D → Prop} : wBlt .isStr [.str a] Q ↔ Q (.bl true) := by simp [wBlt, bltD, isStrD]
theorem ne_L {ts : List Str} {Q : Bool → Prop} : wCmp .ne (.lst (ts.map .str)) (.lst (ts.map .str)) Q ↔ Q false := ne_D (by unfold dep; rw [dep_strs]; omega) rfl
theorem rng_drop {N i : Nat} {x : D} {xs : List D} (h : (rngD 0 N).drop i = x :: xs) : i < N ∧ x = .int (i : Int) ∧ xs = (rngD 0 N).drop (i + 1) := by
  have hi : i < (rngD 0 N).length := by
    by_cases z : i < (rngD 0 N).length
    · exact z
    · rw [List.drop_eq_nil_of_le (by omega)] at h; cases h
  rw [List.drop_eq_getElem_cons hi] at h
  cases h
  rw [rng_len] at hi
  refine ⟨hi, ?_, rfl⟩
  simp [rngD]
theorem r_lfresh (n : Nat) (ms : List Str) (hm : ms.length ≤ 90) : wRun Gs gls (n + 2) 15 [.lst (ms.map .str)] fun d => ∃ m : Nat, d = .str (nS m) ∧ nS m ∉ ms := by
  refine wRun_def d__law_fresh rfl rfl rfl ?_; simp only [d__law_fresh, init, List.map_cons, List.map_nil, List.cons_append, List.nil_append, List.append_nil, List.length_cons, List.length_nil, List.replicate, Nat.reduceAdd, Nat.reduceSub]
  simp only [↓WS, ↓wE_callv, ↓wE_callF, ↓wS_retL, ↓wFnc_succ, ↓wFnc_fnc, ↓wCaps_nil, ↓wCaps_cons, ite_true, ite_false, Bool.false_eq_true, decide_eq_true_eq, ↓reduceIte]
  refine wRun_mono (r_fresh n ms hm) ?_
  rintro _ ⟨m, rfl, h1, h2, h3⟩
  have hl := nS_len m (by omega)
  have ha := any_out h3
  simp only [↓is_str, ↓ne_L, ↓in_strs, ha, Bool.not_true, List.length_map, ↓WS, ↓wE_callv, ↓wE_callF, ↓wS_retL, ↓wFnc_succ, ↓wFnc_fnc, ↓wCaps_nil, ↓wCaps_cons, ite_true, ite_false, Bool.false_eq_true, decide_eq_true_eq, ↓reduceIte]
  refine ⟨⟨by omega, by omega⟩, ?_⟩
  refine wFor_inv (fun xs δ => ∃ (i : Nat) (s : Sl), i ≤ m ∧ xs = (rngD 0 ((ms.length : Int) + 1).toNat).drop i ∧ δ = [.val (.lst (ms.map .str)), .val (.lst (ms.map .str)), .val (.str (nS m)), s]) ?_ ?_ _ _ ⟨0, _, by omega, rfl, rfl⟩
  · rintro x xs δ ⟨i, s, hi, hx, rfl⟩
    obtain ⟨hi2, rfl, rfl⟩ := rng_drop hx.symm
    have hl2 := nS_len i (by omega)
    simp only [↓notin_strs, n_len, ↓WS, ↓wE_callv, ↓wE_callF, ↓wS_retL, ↓wFnc_succ, ↓wFnc_fnc, ↓wCaps_nil, ↓wCaps_cons, ite_true, ite_false, Bool.false_eq_true, decide_eq_true_eq, ↓reduceIte]
    refine ⟨log_small (by omega) (by omega), small (by omega), iteI (fun _ => ⟨m, rfl, h3⟩) fun h => ⟨log_small (by omega) (by omega), small (by omega), ?_⟩⟩
    have him : i < m := by
      rcases Nat.lt_or_eq_of_le hi with z | z
      · exact z
      · exact absurd (by rw [z]; exact beq_self_eq_true (nS m)) h
    have hin := any_in.mpr (h2 i him)
    unfold nS at hin
    simp only [hin, Bool.not_true, ↓WS, ↓wE_callv, ↓wE_callF, ↓wS_retL, ↓wFnc_succ, ↓wFnc_fnc, ↓wCaps_nil, ↓wCaps_cons, ite_true, ite_false, Bool.false_eq_true, decide_eq_true_eq, ↓reduceIte]
    exact ⟨i + 1, _, by omega, rfl, rfl⟩
  · rintro δ ⟨i, s, hi, hx, rfl⟩
    have := congrArg List.length hx
    rw [List.length_drop, rng_len, List.length_nil] at this
    omega
end P1
end
section
namespace P1
open PySem L2 PP
theorem top_fold : ∀ (l : List Nat) (a : Nat), (l.map fun (x : Nat) => (x : Int)).foldl (fun a b => if b > a then b else a) (a : Int) = ((max a (mx l) : Nat) : Int)
  | [], a => by simp [mx]
  | x :: l, a => by
    rw [List.map_cons, List.foldl_cons]
    by_cases h : (x : Int) > (a : Int)
    · rw [if_pos h, top_fold l x]; simp only [mx]; omega
    · rw [if_neg h, top_fold l a]; simp only [mx]; omega
theorem top_mx {ks : List Tr} (h : ks ≠ []) : topI (ks.map fun t => (hN t : Int)) = ((mx (ks.map hN) : Nat) : Int) := by
  cases ks with
  | nil => exact absurd rfl h
  | cons t l =>
    have := top_fold (l.map hN) (hN t)
    rw [List.map_map] at this
    exact this
noncomputable def row (t : Tr) : D := .tup [encT t, .int (hN t)]
theorem mkRule (d : Str) (A : F) (nn : Str) (ks : List Tr) (h1 : 1 ≤ ks.length) (h3 : ks.length ≤ 3) : ∃ t : Tr, encT t = .tup [.str "rule", .str d, enc A, .str nn, .tup (ks.map encT)] ∧ kids t = ks ∧ hd t = .rule d A nn := by
  match ks, h1, h3 with
  | [a], _, _ => exact ⟨.r1 d A nn a, rfl, rfl, rfl⟩
  | [a, b], _, _ => exact ⟨.r2 d A nn a b, rfl, rfl, rfl⟩
  | [a, b, c], _, _ => exact ⟨.r3 d A nn a b c, rfl, rfl, rfl⟩
  | _ :: _ :: _ :: _ :: _, _, h => simp at h
theorem mkCut (A : F) (ks : List Tr) (h2 : ks.length = 2) : ∃ t : Tr, encT t = .tup [.str "cut", enc A, .tup (ks.map encT)] ∧ kids t = ks ∧ hd t = .cut A := by
  match ks, h2 with
  | [a, b], _ => exact ⟨.cut A a b, rfl, rfl, rfl⟩
theorem sIx_neg (n d k : Nat) (hk : 1 ≤ k) : HT.sIx n d (some (-(k : Int))) = n - k := by
  show (if (-(k : Int)) < 0 then ((-(k : Int)) + (n : Int)).toNat else min (-(k : Int)).toNat n) = n - k
  rw [if_pos (by omega)]
  omega
theorem cut_lo {ds : List D} {k : Nat} (hk : 1 ≤ k) : cutD ds (some (-(k : Int))) none = ds.drop (ds.length - k) := by
  unfold cutD
  rw [sIx_neg _ _ _ hk, HT.sIx_none]
  rw [List.take_of_length_le (by rw [List.length_drop]; omega)]
theorem cut_hi {ds : List D} {k : Nat} (hk : 1 ≤ k) : cutD ds none (some (-(k : Int))) = ds.take (ds.length - k) := by
  unfold cutD
  rw [sIx_neg _ _ _ hk, HT.sIx_none, List.drop_zero, Nat.sub_zero]
noncomputable def inv (sc : D) (nms : List Str) (xs : List D) (δ : PP.Loc) : Prop := ∃ (st : List Tr) (s3 s4 s5 s6 s7 s8 s9 s10 : Sl), δ = [.val sc, .val (.lst (nms.map .str)), .own (st.map row), s3, s4, s5, s6, s7, s8, s9, s10] ∧
  (∀ t ∈ st, okT nms t ∧ hN t ≤ 30) ∧ st.length + xs.length ≤ 64 ∧ ∀ x ∈ xs, ∃ c : Int, x = .int c
noncomputable def tl : Ss → Ss
  | .cons _ ss => ss
  | .nil => .nil
noncomputable def forBody : Ss → Ss
  | .cons (.for_ _ _ b) _ => b
  | _ => .nil
noncomputable def BL : Ss := forBody (tl d__law_grown.body)
theorem inv_app {sc : D} {nms : List Str} {xs : List D} (hx : ∀ x ∈ xs, ∃ c : Int, x = .int c) {st : List Tr} (hok : ∀ t ∈ st, okT nms t ∧ hN t ≤ 30) (hl : st.length + (xs.length + 1) ≤ 64) {t : Tr} (ht : okT nms t ∧ hN t ≤ 30) (s3 s4 s5 s6 s7 s8 s9 s10 : Sl) :
    inv sc nms xs [.val sc, .val (.lst (nms.map .str)), .own (st.map row ++ [row t]), s3, s4, s5, s6, s7, s8, s9, s10] := by
  refine ⟨st ++ [t], s3, s4, s5, s6, s7, s8, s9, s10, by rw [List.map_append]; rfl, fun u hu => ?_, ?_, hx⟩
  · rcases List.mem_append.mp hu with h | h
    · exact hok u h
    · rw [List.mem_singleton] at h
      rw [h]
      exact ht
  · rw [List.length_append, List.length_singleton]
    omega
theorem r_b2 (n : Nat) (sc : D) (nms : List Str) (hm : nms.length = 4) (xs : List D) (hx : ∀ x ∈ xs, ∃ c : Int, x = .int c) (st : List Tr) (hok : ∀ t ∈ st, okT nms t ∧ hN t ≤ 30) (hnd : st.length + (xs.length + 1) ≤ 64)
    (c w : Int) (A : F) (hA : okF nms 3 A) (k : Nat) (hk1 : 1 ≤ k) (hk3 : k ≤ 3) (hw : w > 3 → k = 2) (s7 s8 s9 s10 : Sl) (Q : Out → Prop) :
    wSs ⟨PP.run Gs gls n, gls, hfs Gs⟩ (dropS 4 BL) [.val sc, .val (.lst (nms.map .str)), .own (st.map row), .val (.int c), .val (.int w), .val (enc A), .val (.int k), s7, s8, s9, s10] (loopS (inv sc nms xs) Q) := by
  have hsl : st.length < sizeLine := Nat.lt_of_le_of_lt (show st.length ≤ 1000 by omega) (by decide)
  refine wSs_cut (R := fun δ => δ = [.val sc, .val (.lst (nms.map .str)), .own (st.map row), .val (.int c), .val (.int w), .val (enc A), .val (.int k), .val (.lst ((st.map row).drop (st.length - k))), s8, s9, s10]) 1 _ _ ?_ ?_
  · unfold BL
    simp only [d__law_grown, tl, forBody, takeS, dropS, ↓wSl_lst, ↓nxS_nx, ↓WS, ↓wE_callv, ↓wE_callF, ↓wS_retL, ↓wFnc_succ, ↓wFnc_fnc, ↓wCaps_nil, ↓wCaps_cons, ite_true, ite_false, Bool.false_eq_true, decide_eq_true_eq, ↓reduceIte]
    rw [cut_lo hk1, List.length_map]
  rintro _ rfl
  unfold BL
  simp only [d__law_grown, tl, forBody, dropS]
  refine wSs_cons.mpr (wS_if' (δ0 := [.val sc, .val (.lst (nms.map .str)), .own (st.map row), .val (.int c), .val (.int w), .val (enc A), .val (.int k), .val (.lst ((st.map row).drop (st.length - k))), s8, s9, s10]) (fun b => b = false → k ≤ st.length ∧ mx ((st.drop (st.length - k)).map hN) ≤ 29) ?_ (fun _ => ?_) fun h2 => ?_)
  · simp only [↓WS, ↓wE_callv, ↓wE_callF, ↓wS_retL, ↓wFnc_succ, ↓wFnc_fnc, ↓wCaps_nil, ↓wCaps_cons, ite_true, ite_false, Bool.false_eq_true, decide_eq_true_eq, ↓reduceIte]
    refine iteI (fun _ => ⟨trivial, fun h => by cases h⟩) fun _ => ?_
    rw [List.length_drop, List.length_map]
    refine iteI (fun _ => ⟨trivial, fun h => by cases h⟩) fun h2 => ?_
    rw [← List.map_drop]
    refine wComp_map row (fun _ => true) (fun t => .int (hN t)) _ ?_ ?_
    · intro t _
      unfold row
      simp only [List.cons_append, List.nil_append, List.replicate, ↓WS, ↓wE_callv, ↓wE_callF, ↓wS_retL, ↓wFnc_succ, ↓wFnc_fnc, ↓wCaps_nil, ↓wCaps_cons, ite_true, ite_false, Bool.false_eq_true, decide_eq_true_eq, ↓reduceIte]
      exact ⟨trivial, trivial, rfl⟩
    rw [List.filter_eq_self.mpr fun _ _ => rfl]
    have hne : st.drop (st.length - k) ≠ [] := fun e => by
      have := congrArg List.length e
      rw [List.length_drop] at this
      simp at this; omega
    refine ⟨by rw [List.length_map, List.length_drop]; exact small (by omega), _, ints_map (fun t => (hN t : Int)) _, fun e => hne (List.map_eq_nil_iff.mp e), rfl, fun h => ?_⟩
    rw [top_mx hne] at h
    have := of_decide_eq_false h
    omega
  · simp only [List.length_map, List.length_cons, List.length_nil, ↓WS, ↓wE_callv, ↓wE_callF, ↓wS_retL, ↓wFnc_succ, ↓wFnc_fnc, ↓wCaps_nil, ↓wCaps_cons, ite_true, ite_false, Bool.false_eq_true, decide_eq_true_eq, ↓reduceIte]
    exact ⟨by decide, by decide, hsl, inv_app hx hok hnd (t := .close) ⟨trivial, by decide⟩ _ _ _ _ _ _ _ _⟩
  obtain ⟨hks, hmx⟩ := h2 rfl
  obtain ⟨rest, ks, rfl, hl⟩ : ∃ rest ks, st = rest ++ ks ∧ ks.length = k := ⟨st.take (st.length - k), st.drop (st.length - k), (List.take_append_drop _ _).symm, by rw [List.length_drop]; omega⟩
  have e1 : (List.map row (rest ++ ks)).drop ((rest ++ ks).length - k) = ks.map row := by
    rw [List.map_append, List.length_append, hl, Nat.add_sub_cancel, ← List.length_map (f := row), List.drop_left]
  have e2 : (List.map row (rest ++ ks)).take ((rest ++ ks).length - k) = rest.map row := by
    rw [List.map_append, List.length_append, hl, Nat.add_sub_cancel, ← List.length_map (f := row), List.take_left]
  rw [List.length_append, hl, Nat.add_sub_cancel, List.drop_left] at hmx
  rw [e1]
  have ef : ks.filter (fun _ => true) = ks := by simp
  have hne : ks ≠ [] := fun e => by rw [e] at hl; simp at hl; omega
  have hks3 : ks.length ≤ 3 := by omega
  have okk : ∀ t ∈ ks, okT nms t := fun t ht => (hok t (List.mem_append_right _ ht)).1
  refine wSs_cut (R := fun δ => δ = [.val sc, .val (.lst (nms.map .str)), .own (rest.map row), .val (.int c), .val (.int w), .val (enc A), .val (.int k), .val (.lst (ks.map row)), .val (.tup (ks.map encT)), s9, s10]) 2 _ _ ?_ ?_
  · simp only [takeS, ↓wSl_lst, ↓nxS_nx, cut_hi hk1, List.length_map, e2, ↓WS, ↓wE_callv, ↓wE_callF, ↓wS_retL, ↓wFnc_succ, ↓wFnc_fnc, ↓wCaps_nil, ↓wCaps_cons, ite_true, ite_false, Bool.false_eq_true, decide_eq_true_eq, ↓reduceIte]
    refine wComp_map row (fun _ => true) encT _ ?_ ?_
    · intro t _
      unfold row
      simp only [List.cons_append, List.nil_append, List.replicate, ↓WS, ↓wE_callv, ↓wE_callF, ↓wS_retL, ↓wFnc_succ, ↓wFnc_fnc, ↓wCaps_nil, ↓wCaps_cons, ite_true, ite_false, Bool.false_eq_true, decide_eq_true_eq, ↓reduceIte]
      exact ⟨trivial, trivial, rfl⟩
    rw [ef]
    refine ⟨by rw [List.length_map]; exact small (by omega), ?_⟩
    simp only [↓nxS_nx, ↓WS, ↓wE_callv, ↓wE_callF, ↓wS_retL, ↓wFnc_succ, ↓wFnc_fnc, ↓wCaps_nil, ↓wCaps_cons, ite_true, ite_false, Bool.false_eq_true, decide_eq_true_eq, ↓reduceIte]
  rintro _ rfl
  refine wSs_cut (R := fun δ => ∃ nn : Str, (nn = "" ∨ nn ∈ nms) ∧ δ = [.val sc, .val (.lst (nms.map .str)), .own (rest.map row), .val (.int c), .val (.int w), .val (enc A), .val (.int k), .val (.lst (ks.map row)), .val (.tup (ks.map encT)), .val (.str nn), s10]) 1 _ _ ?_ ?_
  · rw [enc_hd A]
    simp only [takeS, dropS, List.length_cons, List.length_nil, ↓nxS_nx, ↓WS, ↓wE_callv, ↓wE_callF, ↓wS_retL, ↓wFnc_succ, ↓wFnc_fnc, ↓wCaps_nil, ↓wCaps_cons, ite_true, ite_false, Bool.false_eq_true, decide_eq_true_eq, ↓reduceIte]
    obtain ⟨nn, hnn, en⟩ := at_strs (ts := nms) (j := c / 7 % 4) (Int.emod_nonneg _ (by decide)) (by rw [hm]; exact Int.emod_lt_of_pos _ (by decide))
    refine ⟨⟨by decide, by decide⟩, by decide, _, en, by decide, iteI (fun _ => ⟨_, rfl, nn, .inr hnn, rfl⟩) fun _ => ?_⟩
    by_cases z : (kd A == "some") = true
    · rw [if_pos z]; exact ⟨_, rfl, nn, .inr hnn, rfl⟩
    · rw [if_neg z]; exact ⟨_, rfl, "", .inl rfl, rfl⟩
  rintro _ ⟨nn, hnn, rfl⟩
  refine wSs_cut (R := fun δ => ∃ t : Tr, kids t = ks ∧ okH nms (hd t) ∧ δ = [.val sc, .val (.lst (nms.map .str)), .own (rest.map row), .val (.int c), .val (.int w), .val (enc A), .val (.int k), .val (.lst (ks.map row)), .val (.tup (ks.map encT)), .val (.str nn), .val (encT t)]) 2 _ _ ?_ ?_
  · simp only [takeS, dropS, List.length_cons, List.length_nil, ↓nxS_nx, ↓WS, ↓wE_callv, ↓wE_callF, ↓wS_retL, ↓wFnc_succ, ↓wFnc_fnc, ↓wCaps_nil, ↓wCaps_cons, ite_true, ite_false, Bool.false_eq_true, decide_eq_true_eq, ↓reduceIte]
    obtain ⟨d, _, ed⟩ := at_strs (ts := ["left", "right"]) (j := c / 18 % 2) (Int.emod_nonneg _ (by decide)) (Int.emod_lt_of_pos _ (by decide))
    refine ⟨by decide, ⟨by decide, by decide⟩, by decide, _, ed, by decide, iteI (fun h => ?_) fun _ => ?_⟩
    · obtain ⟨t, et, kt, ot⟩ := mkCut A ks (by rw [hl]; exact hw h)
      exact ⟨by decide, t, kt, by rw [ot]; exact hA, by rw [et]⟩
    · obtain ⟨t, et, kt, ot⟩ := mkRule d A nn ks (by omega) hks3
      exact ⟨t, kt, by rw [ot]; exact ⟨hA, hnn⟩, by rw [et]⟩
  rintro _ ⟨t, kt, ot, rfl⟩
  have hT : okT nms t ∧ hN t ≤ 30 := ⟨(okT_kids t).mpr ⟨ot, by rw [kt]; exact okk⟩, by rw [hN_kids, kt]; omega⟩
  have ia := inv_app (sc := sc) hx (fun u hu => hok u (List.mem_append_left _ hu)) (by rw [List.length_append] at hnd; omega) hT (.val (.int c)) (.val (.int w)) (.val (enc A)) (.val (.int k)) (.val (.lst (ks.map row))) (.val (.tup (ks.map encT))) (.val (.str nn)) (.val (encT t))
  simp only [dropS, List.length_cons, List.length_nil, List.length_map, ↓WS, ↓wE_callv, ↓wE_callF, ↓wS_retL, ↓wFnc_succ, ↓wFnc_fnc, ↓wCaps_nil, ↓wCaps_cons, ite_true, ite_false, Bool.false_eq_true, decide_eq_true_eq, ↓reduceIte]
  refine wComp_map row (fun _ => true) (fun t => .int (hN t)) _ ?_ ?_
  · intro t _
    unfold row
    simp only [List.cons_append, List.nil_append, List.replicate, ↓WS, ↓wE_callv, ↓wE_callF, ↓wS_retL, ↓wFnc_succ, ↓wFnc_fnc, ↓wCaps_nil, ↓wCaps_cons, ite_true, ite_false, Bool.false_eq_true, decide_eq_true_eq, ↓reduceIte]
    exact ⟨trivial, trivial, rfl⟩
  rw [ef]
  refine ⟨by rw [List.length_map]; exact small (by omega), _, ints_map (fun t => (hN t : Int)) _, fun e => hne (List.map_eq_nil_iff.mp e), ?_⟩
  have eh : (1 : Int) + ((mx (ks.map hN) : Nat) : Int) = (hN t : Int) := by rw [hN_kids t, kt]; omega
  rw [top_mx hne]
  simp only [eh, List.length_map, ↓WS, ↓wE_callv, ↓wE_callF, ↓wS_retL, ↓wFnc_succ, ↓wFnc_fnc, ↓wCaps_nil, ↓wCaps_cons, ite_true, ite_false, Bool.false_eq_true, decide_eq_true_eq, ↓reduceIte]
  exact ⟨by decide, by rw [List.length_append] at hsl; omega, ia⟩
theorem r_grown (n : Nat) (ns : List Int) (hns : ns.length ≤ 63) (nms : List Str) (hm : nms.length = 4) (h100 : 90 ≤ n) : wRun Gs gls (n + 1) 10 [.lst (ns.map .int), .lst (nms.map .str)] fun d => ∃ st : List Tr, d = .lst (st.map encT) ∧ ∀ t ∈ st, okT nms t ∧ hN t ≤ 30 := by
  refine wRun_def d__law_grown rfl rfl rfl ?_; simp only [d__law_grown, init, List.map_cons, List.map_nil, List.cons_append, List.nil_append, List.append_nil, List.length_cons, List.length_nil, List.replicate, Nat.reduceAdd, Nat.reduceSub]
  simp only [List.length_nil, List.length_cons, ↓wSl_lst, ↓WS, ↓wE_callv, ↓wE_callF, ↓wS_retL, ↓wFnc_succ, ↓wFnc_fnc, ↓wCaps_nil, ↓wCaps_cons, ite_true, ite_false, Bool.false_eq_true, decide_eq_true_eq, ↓reduceIte]
  refine ⟨by decide, by decide, by decide, ?_⟩
  refine wFor_inv (inv (.lst (ns.map .int)) nms) ?_ ?_ _ _ ?_
  · rintro x xs δ ⟨st, s3, s4, s5, s6, s7, s8, s9, s10, rfl, hok, hnd, hx⟩
    obtain ⟨c, rfl⟩ := hx _ List.mem_cons_self
    have hx' : ∀ x ∈ xs, ∃ c : Int, x = .int c := fun x h => hx x (List.mem_cons_of_mem _ h)
    rw [List.length_cons] at hnd
    simp only [↓wTg_nm, ↓wSet_zip, ↓wZip_succ, ↓wZip_zero, ↓wRev_cons, ↓wRev_nil]
    refine wSs_cut (R := fun δ => ∃ (A : F) (k : Nat), okF nms 3 A ∧ 1 ≤ k ∧ k ≤ 3 ∧ (c % 6 > 3 → k = 2) ∧ δ = [.val (.lst (ns.map .int)), .val (.lst (nms.map .str)), .own (st.map row), .val (.int c), .val (.int (c % 6)), .val (enc A), .val (.int k), s7, s8, s9, s10]) 4 _ _ ?_ ?_
    · simp only [takeS, ↓nxS_nx, ↓WS, ↓wE_callv, ↓wE_callF, ↓wS_retL, ↓wFnc_succ, ↓wFnc_fnc, ↓wCaps_nil, ↓wCaps_cons, ite_true, ite_false, Bool.false_eq_true, decide_eq_true_eq, ↓reduceIte]
      refine ⟨by decide, ⟨by decide, by decide⟩, wRun_mono (r_wide nms hm 3 n (c / 36) 0 (by omega) (by decide) (by decide) (by decide)) ?_⟩
      rintro _ ⟨A, rfl, hA⟩
      refine ⟨⟨by decide, by decide⟩, by decide, ?_⟩
      have a1 := Int.emod_nonneg (c / 6) (show (3 : Int) ≠ 0 by decide)
      have a2 := Int.emod_lt_of_pos (c / 6) (show (0 : Int) < 3 by decide)
      refine iteI (fun hw => ?_) (fun hw => ?_)
      · exact ⟨A, 2, hA, by decide, by decide, fun _ => rfl, rfl⟩
      · obtain ⟨k, hk⟩ : ∃ k : Nat, (k : Int) = 1 + c / 6 % 3 := ⟨(1 + c / 6 % 3).toNat, by omega⟩
        rw [← hk]
        exact ⟨A, k, hA, by omega, by omega, fun h => absurd h hw, rfl⟩
    · rintro _ ⟨A, k, hA, k1, k3, hw, rfl⟩
      exact r_b2 n _ nms hm xs hx' st hok hnd c (c % 6) A hA k k1 k3 hw _ _ _ _ _
  · rintro δ ⟨st, s3, s4, s5, s6, s7, s8, s9, s10, rfl, hok, hnd, _⟩
    simp only [↓WS, ↓wE_callv, ↓wE_callF, ↓wS_retL, ↓wFnc_succ, ↓wFnc_fnc, ↓wCaps_nil, ↓wCaps_cons, ite_true, ite_false, Bool.false_eq_true, decide_eq_true_eq, ↓reduceIte]
    refine wComp_map row (fun _ => true) encT _ ?_ ?_
    · intro t _
      unfold row
      simp only [List.cons_append, List.nil_append, List.replicate, ↓WS, ↓wE_callv, ↓wE_callF, ↓wS_retL, ↓wFnc_succ, ↓wFnc_fnc, ↓wCaps_nil, ↓wCaps_cons, ite_true, ite_false, Bool.false_eq_true, decide_eq_true_eq, ↓reduceIte]
      exact ⟨trivial, trivial, rfl⟩
    rw [List.filter_eq_self.mpr fun _ _ => rfl]
    rw [List.length_nil] at hnd
    exact ⟨by rw [List.length_map]; exact small (by omega), st, rfl, hok⟩
  · refine ⟨[.close], _, _, _, _, _, _, _, _, rfl, by simp [okT, hN], ?_, fun x hx => ?_⟩
    · have := @cut_len (ns.map D.int) none (some 90)
      rw [List.length_map] at this
      simp only [List.length_cons, List.length_nil]
      omega
    · obtain ⟨c, _, rfl⟩ := List.mem_map.mp (cut_mem hx)
      exact ⟨c, rfl⟩
end P1
end
section
namespace P1
open PySem L2 PP
theorem nm_n : nm "n" := ⟨110, [], by decide +kernel, by decide, by decide⟩
theorem rn_back {o x t : Str} (h : (t == x) = false) : rn x o (rn o x t) = t := by
  unfold rn
  by_cases z : (t == o) = true
  · rw [if_pos z, if_pos (beq_self_eq_true x)]; exact (eq_of_beq z).symm
  · rw [if_neg z, if_neg (by rw [h]; exact Bool.false_ne_true)]
theorem ren_back {o x : Str} : ∀ {A : F}, inF x A = false → ren x o (ren o x A) = A
  | .yes, _ | .no, _ => rfl
  | .word w ts, h => by
    have h : ∀ t ∈ ts, (t == x) = false := fun t ht => by
      have := List.any_eq_false.mp h t ht
      simpa using this
    simp only [ren, List.map_map]
    congr 1
    conv => rhs; rw [← List.map_id ts]
    exact List.map_congr_left fun t ht => rn_back (h t ht)
  | .un u a, h => by simp only [ren]; rw [ren_back (A := a) h]
  | .bi b y z, h => by
    have h : (inF x y || inF x z) = false := by rw [← h]; simp [inF, tmsF]
    rw [Bool.or_eq_false_iff] at h
    simp only [ren]
    rw [ren_back h.1, ren_back h.2]
theorem ch_back {o x : Str} {t : Tr} (h : hasT x t = false) : chT x o (chT o x t) = t := by
  have key : ∀ {d : Str} {s : F} {m : Str}, hasH x (.rule d s m) = false → ren x o (ren o x s) = s ∧ rn x o (rn o x m) = m := fun h => by
    have h := Bool.or_eq_false_iff.mp h
    exact ⟨ren_back h.2, rn_back h.1⟩
  induction t with
  | close => rfl
  | r1 d s m a i1 =>
    simp only [hasT, Bool.or_eq_false_iff] at h
    have k := key h.1
    simp only [chT, k.1, k.2, i1 h.2]
  | r2 d s m a b i1 i2 =>
    simp only [hasT, Bool.or_eq_false_iff] at h
    have k := key h.1
    simp only [chT, k.1, k.2, i1 h.2.1, i2 h.2.2]
  | r3 d s m a b c i1 i2 i3 =>
    simp only [hasT, Bool.or_eq_false_iff] at h
    have k := key h.1
    simp only [chT, k.1, k.2, i1 h.2.1, i2 h.2.2.1, i3 h.2.2.2]
  | cut s a b i1 i2 =>
    simp only [hasT, Bool.or_eq_false_iff] at h
    simp only [chT, ren_back (show inF x s = false from h.1), i1 h.2.1, i2 h.2.2]
theorem nm_no {x y : Str} (h : nm x) (hy : y = "" ∨ y = "0" ∨ y = "1" ∨ y = "2") : x ≠ y := fun e => by
  obtain ⟨c, r, ec, h1, h2⟩ := h
  rw [e] at ec
  rcases hy with rfl | rfl | rfl | rfl
  · cases ec
  · have : [48] = c :: r := ec
    cases this; omega
  · have : [49] = c :: r := ec
    cases this; omega
  · have : [50] = c :: r := ec
    cases this; omega
theorem in_ok {nms : List Str} {x : Str} (hx : nm x) {s : F} (h : okF nms 3 s) (hi : inF x s = true) : x ∈ nms := by
  have : x ∈ tmsF s := any_in.mp hi
  rcases h.2.1 x this with z | z
  · exact z
  · exact absurd rfl (nm_no hx (.inr z))
theorem has_ok {nms : List Str} {x : Str} (hx : nm x) {t : Tr} (h : okT nms t) (hi : hasT x t = true) : x ∈ nms := by
  have key : ∀ {e : Hd}, okH nms e → hasH x e = true → x ∈ nms := fun {e} h hi => by
    cases e with
    | close => cases hi
    | rule d s m =>
      rcases (Bool.or_eq_true_iff.mp hi) with z | z
      · have z := eq_of_beq z
        rcases h.2 with y | y
        · exact absurd (z.symm.trans y) (nm_no hx (.inl rfl))
        · exact z ▸ y
      · exact in_ok hx h.1 z
    | cut s => exact in_ok hx (show okF nms 3 s from h) hi
  induction t with
  | close => cases hi
  | r1 d s m a i1 =>
    simp only [hasT, Bool.or_eq_true] at hi
    exact hi.elim (key h.1) (i1 h.2)
  | r2 d s m a b i1 i2 =>
    simp only [hasT, Bool.or_eq_true] at hi
    exact hi.elim (key h.1) fun hi => hi.elim (i1 h.2.1) (i2 h.2.2)
  | r3 d s m a b c i1 i2 i3 =>
    simp only [hasT, Bool.or_eq_true] at hi
    exact hi.elim (key h.1) fun hi => hi.elim (i1 h.2.1) fun hi => hi.elim (i2 h.2.2.1) (i3 h.2.2.2)
  | cut s a b i1 i2 =>
    simp only [hasT, Bool.or_eq_true] at hi
    exact hi.elim (key h.1) fun hi => hi.elim (i1 h.2.1) (i2 h.2.2)
theorem fresh_no {nms : List Str} {t : Tr} (h : okT nms t) {m : Nat} (hm : nS m ∉ nms.filter fun x => hasT x t) : hasT (nS m) t = false := by
  cases e : hasT (nS m) t with
  | false => rfl
  | true => exact absurd (List.mem_filter.mpr ⟨has_ok (nm_app nm_n) h e, e⟩) hm
theorem is_str' {a : Str} {Q : Bool → Prop} : wCmp .is (.str a) .non Q ↔ Q false := by
  unfold wCmp
  exact ⟨fun ⟨_, e, q⟩ => by cases e; exact q, fun q => ⟨_, rfl, q⟩⟩
theorem isnot_str {a : Str} {Q : Bool → Prop} : wCmp .isnot (.str a) .non Q ↔ Q true := by
  unfold wCmp
  exact ⟨fun ⟨_, e, q⟩ => by cases e; exact q, fun q => ⟨_, rfl, q⟩⟩
theorem r_turn (n : Nat) (hn : 100 ≤ n) (nms : List Str) (hm : nms.length = 4) (sc pl : D) (o nw : Str) (t : Tr) (ok : okT nms t) (h30 : hN t ≤ 30) (s6 s7 s8 s9 : Sl) (P : PP.Loc → Prop) (Q : Out → Prop)
    (hP : ∀ s6 s7 : Sl, P [.val sc, .val (.lst (nms.map .str)), .val pl, .val (.str o), .val (.str nw), .val (encT t), s6, s7, s8, s9]) :
    wSs ⟨PP.run Gs gls n, gls, hfs Gs⟩ (forBody (dropS 5 d_law.body)) [.val sc, .val (.lst (nms.map .str)), .val pl, .val (.str o), .val (.str nw), .val (encT t), s6, s7, s8, s9] (loopS P Q) := by
  obtain ⟨n, rfl⟩ : ∃ m, n = m + 2 := ⟨n - 2, by omega⟩
  have sm := ok_smT ok
  have c1 := r_ch o nw (n + 2) t (by omega) sm
  have i1 := r_isch o nw (n + 2) t (by omega) sm
  have a1 : ∀ x : Str, PP.run Gs gls (n + 2) 14 [encT t, .str x] = some (.bl (hasT x t)) := fun x => r_has x (n + 2) t (by omega) sm
  have c2 := r_ch nw o (n + 2) (chT o nw t) (by rw [ch_hN]; omega) (ch_sm o nw sm)
  unfold d_law
  simp only [dropS, forBody]
  refine wSs_cut (R := fun δ => δ = [.val sc, .val (.lst (nms.map .str)), .val pl, .val (.str o), .val (.str nw), .val (encT t), .val (encT (chT o nw t)), s7, s8, s9]) 3 _ _ ?_ ?_
  · simp only [takeS, ↓nxS_nx, ↓wRun_eq c1, ↓wRun_eq i1, ↓wRun_eq (a1 _), Bool.not_true, ↓WS, ↓wE_callv, ↓wE_callF, ↓wS_retL, ↓wFnc_succ, ↓wFnc_fnc, ↓wCaps_nil, ↓wCaps_cons, ite_true, ite_false, Bool.false_eq_true, decide_eq_true_eq, ↓reduceIte]
    refine iteI (fun h => ?_) fun _ => trivial
    have h : hasT nw t = false := by simpa using h
    rw [ch_back h] at c2
    rw [wRun_eq c2, ne_T (by omega) sm]
    simp only [↓WS, ↓wE_callv, ↓wE_callF, ↓wS_retL, ↓wFnc_succ, ↓wFnc_fnc, ↓wCaps_nil, ↓wCaps_cons, ite_true, ite_false, Bool.false_eq_true, decide_eq_true_eq, ↓reduceIte]
  rintro _ rfl
  simp only [dropS, ↓WS, ↓wE_callv, ↓wE_callF, ↓wS_retL, ↓wFnc_succ, ↓wFnc_fnc, ↓wCaps_nil, ↓wCaps_cons, ite_true, ite_false, Bool.false_eq_true, decide_eq_true_eq, ↓reduceIte]
  refine wComp_map D.str (fun x => hasT x t) D.str nms ?_ ?_
  · intro x _
    simp only [List.cons_append, List.nil_append, List.replicate, ↓wRun_eq (a1 _), ↓WS, ↓wE_callv, ↓wE_callF, ↓wS_retL, ↓wFnc_succ, ↓wFnc_fnc, ↓wCaps_nil, ↓wCaps_cons, ite_true, ite_false, Bool.false_eq_true, decide_eq_true_eq, ↓reduceIte]
    refine ⟨trivial, iteI (fun _ => ⟨trivial, rfl⟩) fun _ => rfl⟩
  have hf := List.length_filter_le (fun x => hasT x t) nms
  refine ⟨by rw [List.length_map]; exact small (by omega), wRun_mono (r_lfresh n (nms.filter fun x => hasT x t) (by omega)) ?_⟩
  rintro _ ⟨m, rfl, hmm⟩
  have hf := fresh_no ok hmm
  have c3 := r_ch o (nS m) (n + 2) t (by omega) sm
  have c4 := r_ch (nS m) o (n + 2) (chT o (nS m) t) (by rw [ch_hN]; omega) (ch_sm o _ sm)
  rw [ch_back hf] at c4
  simp only [↓is_str', ↓wRun_eq c3, ↓wRun_eq c4, ↓ne_T (show hN t ≤ 60 by omega) sm, ↓WS, ↓wE_callv, ↓wE_callF, ↓wS_retL, ↓wFnc_succ, ↓wFnc_fnc, ↓wCaps_nil, ↓wCaps_cons, ite_true, ite_false, Bool.false_eq_true, decide_eq_true_eq, ↓reduceIte]
  exact hP _ _
theorem r_names (n : Nat) (sc : D) (xs : List D) (hl : xs.length ≤ 63) (hx : ∀ x ∈ xs, ∃ c : Int, x = .int c) (s1 s2 s3 s4 s5 s6 s7 s9 : Sl) (Q : Out → Prop)
    (q : ∀ (ms : List Str) (s9 : Sl), ms.length ≤ 63 → Q (.nx [.val sc, s1, s2, s3, s4, s5, s6, s7, .own (ms.map .str), s9])) :
    wFor ⟨PP.run Gs gls (n + 1), gls, hfs Gs⟩ (.nm 9) (forBody (dropS 7 d_law.body)) xs [.val sc, s1, s2, s3, s4, s5, s6, s7, .own [], s9] Q := by
  unfold d_law
  simp only [dropS, forBody]
  refine wFor_inv (fun xs δ => ∃ (ms : List Str) (s9 : Sl), δ = [.val sc, s1, s2, s3, s4, s5, s6, s7, .own (ms.map .str), s9] ∧ ms.length + xs.length ≤ 63 ∧ ∀ x ∈ xs, ∃ c : Int, x = .int c) ?_ ?_ _ _ ⟨[], _, rfl, by simpa using hl, hx⟩
  · rintro x xs δ ⟨ms, s9, rfl, hl, hx⟩
    obtain ⟨c, rfl⟩ := hx _ List.mem_cons_self
    rw [List.length_cons] at hl
    have b1 := Int.emod_nonneg (c / 5) (show (40 : Int) ≠ 0 by decide)
    have b2 := Int.emod_lt_of_pos (c / 5) (show (0 : Int) < 40 by decide)
    have l1 := nS_len (c / 5 % 40).toNat (by omega)
    rw [Int.toNat_of_nonneg b1] at l1
    have l2 := nS_len ms.length (by omega)
    simp only [List.length_cons, List.length_nil, List.length_map, n_len, ↓WS, ↓wE_callv, ↓wE_callF, ↓wS_retL, ↓wFnc_succ, ↓wFnc_fnc, ↓wCaps_nil, ↓wCaps_cons, ite_true, ite_false, Bool.false_eq_true, decide_eq_true_eq, ↓reduceIte]
    refine ⟨⟨by decide, by decide⟩, by decide, log_small (by omega) (by omega), small (by omega), log_small (by omega) (by omega), small (by omega), ⟨by decide, by decide⟩, wRun_mono (r_name n _) ?_⟩
    rintro _ ⟨t, rfl, _⟩
    have a1 := Int.emod_nonneg c (show (5 : Int) ≠ 0 by decide)
    have a2 := Int.emod_lt_of_pos c (show (0 : Int) < 5 by decide)
    obtain ⟨u, _, eu⟩ := at_strs (ts := ["n" ++ (toString (c / 5 % 40) : Str), "n" ++ (toString (ms.length : Int) : Str), t]) (j := c % 5 / 2) (by omega) (by simp only [List.length_cons, List.length_nil]; omega)
    refine ⟨by decide, by decide, ⟨by decide, by decide⟩, _, eu, Nat.lt_of_le_of_lt (show ms.length ≤ 1000 by omega) (by decide), ms ++ [u], _, by rw [List.map_append]; rfl, by rw [List.length_append, List.length_singleton]; omega, fun y hy => hx y (List.mem_cons_of_mem _ hy)⟩
  · rintro δ ⟨ms, s9, rfl, hl, _⟩
    exact q ms s9 (by simpa using hl)
theorem main (ns : List Int) (hns : ns.length ≤ 63) : PP.run Gs gls 200 16 [.lst (ns.map .int)] = some (.bl true) := by
  apply wRun_out
  refine wRun_def d_law rfl rfl rfl ?_
  refine wSs_cut (R := fun δ => ∃ nms : List Str, nms.length = 4 ∧ δ = [.val (.lst (ns.map .int)), .val (.lst (nms.map .str)), .no, .no, .no, .no, .no, .no, .no, .no]) 2 _ _ ?_ ?_
  · simp only [d_law, init, takeS, List.map_cons, List.map_nil, List.cons_append, List.nil_append, List.append_nil, List.length_cons, List.length_nil, List.replicate, Nat.reduceAdd, Nat.reduceSub, ↓nxS_nx, ↓WS, ↓wE_callv, ↓wE_callF, ↓wS_retL, ↓wFnc_succ, ↓wFnc_fnc, ↓wCaps_nil, ↓wCaps_cons, ite_true, ite_false, Bool.false_eq_true, decide_eq_true_eq, ↓reduceIte]
    refine ⟨⟨by decide, by decide⟩, ?_⟩
    refine wComp_each (fun x y => ∃ t : Str, y = .str t ∧ nm t) _ ?_ ?_
    · intro x hx
      obtain ⟨i, hi, rfl⟩ := rng_mem hx
      simp only [List.cons_append, List.nil_append, List.replicate, ↓WS, ↓wE_callv, ↓wE_callF, ↓wS_retL, ↓wFnc_succ, ↓wFnc_fnc, ↓wCaps_nil, ↓wCaps_cons, ite_true, ite_false, Bool.false_eq_true, decide_eq_true_eq, ↓reduceIte]
      refine ⟨trivial, wRun_mono (r_cell 198 ns _ (by omega) (by omega)) ?_⟩
      rintro _ ⟨c, rfl⟩
      refine wRun_mono (r_name 198 c) ?_
      rintro _ ⟨t, rfl, ht⟩
      exact ⟨⟨t, rfl, ht⟩, rfl⟩
    intro ys r
    obtain ⟨ts, rfl, hl, hts⟩ := strs_all (fun _ _ h => h) _ _ r
    rw [rng_len] at hl
    refine ⟨by rw [List.length_map]; exact small (by omega), ?_⟩
    simp only [↓WS, ↓wE_callv, ↓wE_callF, ↓wS_retL, ↓wFnc_succ, ↓wFnc_fnc, ↓wCaps_nil, ↓wCaps_cons, ite_true, ite_false, Bool.false_eq_true, decide_eq_true_eq, ↓reduceIte]
    refine wRun_mono (r_cell 198 ns 4 (by decide) (by decide)) ?_
    rintro _ ⟨c, rfl⟩
    simp only [↓WS, ↓wE_callv, ↓wE_callF, ↓wS_retL, ↓wFnc_succ, ↓wFnc_fnc, ↓wCaps_nil, ↓wCaps_cons, ite_true, ite_false, Bool.false_eq_true, decide_eq_true_eq, ↓reduceIte]
    refine ⟨by decide, ?_⟩
    refine iteI (fun _ => ?_) (fun _ => ?_)
    · refine ⟨⟨by decide, by decide⟩, ?_⟩
      refine wComp_each (fun x y => ∃ t : Str, y = .str t ∧ nm t) _ ?_ ?_
      · intro x hx
        obtain ⟨i, hi, rfl⟩ := rng_mem hx
        simp only [List.cons_append, List.nil_append, List.replicate, ↓WS, ↓wE_callv, ↓wE_callF, ↓wS_retL, ↓wFnc_succ, ↓wFnc_fnc, ↓wCaps_nil, ↓wCaps_cons, ite_true, ite_false, Bool.false_eq_true, decide_eq_true_eq, ↓reduceIte]
        refine ⟨trivial, wRun_mono (r_cell 198 ns _ (by omega) (by omega)) ?_⟩
        rintro _ ⟨c, rfl⟩
        have a1 := Int.emod_nonneg c (show (4 : Int) ≠ 0 by decide)
        have a2 := Int.emod_lt_of_pos c (show (0 : Int) < 4 by decide)
        have l1 : (toString (c % 4) : Str).length ≤ 1 := by
          rcases (show c % 4 = 0 ∨ c % 4 = 1 ∨ c % 4 = 2 ∨ c % 4 = 3 by omega) with h | h | h | h <;> rw [h] <;> decide +kernel
        have e1 : ("n" : Str).length = 1 := by decide
        simp only [↓WS, ↓wE_callv, ↓wE_callF, ↓wS_retL, ↓wFnc_succ, ↓wFnc_fnc, ↓wCaps_nil, ↓wCaps_cons, ite_true, ite_false, Bool.false_eq_true, decide_eq_true_eq, ↓reduceIte]
        exact ⟨by decide, log_small (by omega) (by omega), small (by omega), ⟨_, rfl, nm_app nm_n⟩, rfl⟩
      intro ys r
      obtain ⟨ts, rfl, hl, hts⟩ := strs_all (fun _ _ h => h) _ _ r
      rw [rng_len] at hl
      refine ⟨by rw [List.length_map]; exact small (by omega), ?_⟩
      simp only [↓nxS_nx, ↓WS, ↓wE_callv, ↓wE_callF, ↓wS_retL, ↓wFnc_succ, ↓wFnc_fnc, ↓wCaps_nil, ↓wCaps_cons, ite_true, ite_false, Bool.false_eq_true, decide_eq_true_eq, ↓reduceIte]
      exact ⟨ts, by omega, rfl⟩
    · exact ⟨ts, by omega, rfl⟩
  rintro _ ⟨nms, hm, rfl⟩
  refine wSs_cut (R := fun δ => ∃ (pl : List Str) (o nw : Str), pl.length = 6 ∧ δ = [.val (.lst (ns.map .int)), .val (.lst (nms.map .str)), .val (.lst (pl.map .str)), .val (.str o), .val (.str nw), .no, .no, .no, .no, .no]) 3 _ _ ?_ ?_
  · simp only [d_law, dropS, takeS, ↓nxS_nx, ↓WS, ↓wE_callv, ↓wE_callF, ↓wS_retL, ↓wFnc_succ, ↓wFnc_fnc, ↓wCaps_nil, ↓wCaps_cons, ite_true, ite_false, Bool.false_eq_true, decide_eq_true_eq, ↓reduceIte]
    refine wRun_mono (r_cell 198 ns 5 (by decide) (by decide)) ?_
    rintro _ ⟨c, rfl⟩
    refine wRun_mono (r_name 198 c) ?_
    rintro _ ⟨t, rfl, _⟩
    simp only [List.length_cons, List.length_nil, List.length_map, ↓WS, ↓wE_callv, ↓wE_callF, ↓wS_retL, ↓wFnc_succ, ↓wFnc_fnc, ↓wCaps_nil, ↓wCaps_cons, ite_true, ite_false, Bool.false_eq_true, decide_eq_true_eq, ↓reduceIte]
    refine ⟨by decide, small (by omega), wRun_mono (r_cell 198 ns 6 (by decide) (by decide)) ?_⟩
    rintro _ ⟨c6, rfl⟩
    have ep : nms.map D.str ++ [.str t, .str "n0"] = (nms ++ [t, "n0"]).map D.str := by rw [List.map_append]; rfl
    have hp : (nms ++ [t, "n0"]).length = 6 := by rw [List.length_append, hm]; rfl
    rw [ep]
    generalize nms ++ [t, "n0"] = pl at hp
    obtain ⟨o, _, eo⟩ := at_strs (ts := pl) (j := c6 % 5) (Int.emod_nonneg _ (by decide)) (by have := Int.emod_lt_of_pos c6 (show (0 : Int) < 5 by decide); omega)
    simp only [↓WS, ↓wE_callv, ↓wE_callF, ↓wS_retL, ↓wFnc_succ, ↓wFnc_fnc, ↓wCaps_nil, ↓wCaps_cons, ite_true, ite_false, Bool.false_eq_true, decide_eq_true_eq, ↓reduceIte]
    refine ⟨by decide, _, eo, wRun_mono (r_cell 198 ns 7 (by decide) (by decide)) ?_⟩
    rintro _ ⟨c7, rfl⟩
    obtain ⟨nw, _, en⟩ := at_strs (ts := pl) (j := c7 % 6) (Int.emod_nonneg _ (by decide)) (by have := Int.emod_lt_of_pos c7 (show (0 : Int) < 6 by decide); omega)
    simp only [↓WS, ↓wE_callv, ↓wE_callF, ↓wS_retL, ↓wFnc_succ, ↓wFnc_fnc, ↓wCaps_nil, ↓wCaps_cons, ite_true, ite_false, Bool.false_eq_true, decide_eq_true_eq, ↓reduceIte]
    exact ⟨by decide, _, en, pl, o, nw, hp, rfl⟩
  rintro _ ⟨pl, o, nw, hp, rfl⟩
  refine wSs_cut (R := fun δ => ∃ s5 s6 s7 : Sl, δ = [.val (.lst (ns.map .int)), .val (.lst (nms.map .str)), .val (.lst (pl.map .str)), .val (.str o), .val (.str nw), s5, s6, s7, .no, .no]) 1 _ _ ?_ ?_
  · simp only [d_law, dropS, takeS, ↓WS, ↓wE_callv, ↓wE_callF, ↓wS_retL, ↓wFnc_succ, ↓wFnc_fnc, ↓wCaps_nil, ↓wCaps_cons, ite_true, ite_false, Bool.false_eq_true, decide_eq_true_eq, ↓reduceIte]
    refine wRun_mono (r_grown 198 ns hns nms hm (by decide)) ?_
    rintro _ ⟨st, rfl, hok⟩
    simp only [↓WS, ↓wE_callv, ↓wE_callF, ↓wS_retL, ↓wFnc_succ, ↓wFnc_fnc, ↓wCaps_nil, ↓wCaps_cons, ite_true, ite_false, Bool.false_eq_true, decide_eq_true_eq, ↓reduceIte]
    refine wFor_map encT (fun ts δ => (∀ t ∈ ts, t ∈ st) ∧ ∃ s5 s6 s7 : Sl, δ = [.val (.lst (ns.map .int)), .val (.lst (nms.map .str)), .val (.lst (pl.map .str)), .val (.str o), .val (.str nw), s5, s6, s7, .no, .no]) ?_ ?_ _ _ ⟨fun _ h => h, _, _, _, rfl⟩
    · rintro t ts δ ⟨hts, s5, s6, s7, rfl⟩
      obtain ⟨ok, h30⟩ := hok t (hts t List.mem_cons_self)
      simp only [↓wTg_nm, ↓wSet_zip, ↓wZip_succ, ↓wZip_zero, ↓wRev_cons, ↓wRev_nil]
      exact r_turn 199 (by decide) nms hm _ _ o nw t ok h30 s6 s7 _ _ _ _ fun s6 s7 => ⟨fun u hu => hts u (List.mem_cons_of_mem _ hu), _, _, _, rfl⟩
    · rintro δ ⟨_, s5, s6, s7, rfl⟩
      exact wSs_nil.mpr ⟨_, _, _, rfl⟩
  rintro _ ⟨s5, s6, s7, rfl⟩
  simp only [d_law, dropS, ↓wSl_lst, List.length_nil, ↓WS, ↓wE_callv, ↓wE_callF, ↓wS_retL, ↓wFnc_succ, ↓wFnc_fnc, ↓wCaps_nil, ↓wCaps_cons, ite_true, ite_false, Bool.false_eq_true, decide_eq_true_eq, ↓reduceIte]
  refine ⟨by decide, ?_⟩
  refine r_names 198 _ _ ?_ (fun x hx => ?_) _ _ _ _ _ _ _ _ _ fun ms s9 hms => ?_
  · have := @cut_len (ns.map D.int) none (some 90)
    rw [List.length_map] at this
    omega
  · obtain ⟨c, _, rfl⟩ := List.mem_map.mp (cut_mem hx)
    exact ⟨c, rfl⟩
  · simp only [↓WS, ↓wE_callv, ↓wE_callF, ↓wS_retL, ↓wFnc_succ, ↓wFnc_fnc, ↓wCaps_nil, ↓wCaps_cons, ite_true, ite_false, Bool.false_eq_true, decide_eq_true_eq, ↓reduceIte]
    refine wRun_mono (r_lfresh 197 ms (by omega)) ?_
    rintro _ ⟨m, rfl, _⟩
    simp only [↓isnot_str, ↓WS, ↓wE_callv, ↓wE_callF, ↓wS_retL, ↓wFnc_succ, ↓wFnc_fnc, ↓wCaps_nil, ↓wCaps_cons, ite_true, ite_false, Bool.false_eq_true, decide_eq_true_eq, ↓reduceIte]
    refine wRun_mono (r_lfresh 197 pl (by omega)) ?_
    rintro _ ⟨m', rfl, _⟩
    simp only [↓isnot_str, ↓WS, ↓wE_callv, ↓wE_callF, ↓wS_retL, ↓wFnc_succ, ↓wFnc_fnc, ↓wCaps_nil, ↓wCaps_cons, ite_true, ite_false, Bool.false_eq_true, decide_eq_true_eq, ↓reduceIte]
end P1
end
section
namespace P1
open PySem L2 PP
theorem ck_inside : ckSs ⟨d_inside.ps ++ d_inside.loc, defScope (top 3), cfOf Gd, gns⟩ d_inside.body (defBody (top 3)) = true := by decide +kernel
theorem sc_inside : FnScope (d_inside.ps ++ d_inside.loc) d_inside.ps (defScope (top 3)) := ⟨rfl, rfl, rfl, by decide +kernel, rfl, by decide +kernel, by decide +kernel⟩
theorem ck_with_terms : ckSs ⟨d_with_terms.ps ++ d_with_terms.loc, defScope (top 4), cfOf Gd, gns⟩ d_with_terms.body (defBody (top 4)) = true := by decide +kernel
theorem sc_with_terms : FnScope (d_with_terms.ps ++ d_with_terms.loc) d_with_terms.ps (defScope (top 4)) := ⟨rfl, rfl, rfl, by decide +kernel, rfl, by decide +kernel, by decide +kernel⟩
theorem sc_renamed : FnScope (d_renamed.ps ++ d_renamed.loc) d_renamed.ps (defScope (top 5)) := ⟨rfl, rfl, rfl, by decide +kernel, rfl, by decide +kernel, by decide +kernel⟩
theorem ck_kids_of : ckSs ⟨d_kids_of.ps ++ d_kids_of.loc, defScope (top 8), cfOf Gd, gns⟩ d_kids_of.body (defBody (top 8)) = true := by decide +kernel
theorem sc_kids_of : FnScope (d_kids_of.ps ++ d_kids_of.loc) d_kids_of.ps (defScope (top 8)) := ⟨rfl, rfl, rfl, by decide +kernel, rfl, by decide +kernel, by decide +kernel⟩
theorem ck_changed : ckSs ⟨d_changed.ps ++ d_changed.loc, defScope (top 10), cfOf Gd, gns⟩ d_changed.body (defBody (top 10)) = true := by decide +kernel
theorem sc_changed : FnScope (d_changed.ps ++ d_changed.loc) d_changed.ps (defScope (top 10)) := ⟨rfl, rfl, rfl, by decide +kernel, rfl, by decide +kernel, by decide +kernel⟩
theorem ck_fresh : ckSs ⟨d_fresh.ps ++ d_fresh.loc, defScope (top 11), cfOf Gd, gns⟩ d_fresh.body (defBody (top 11)) = true := by decide +kernel
theorem sc_fresh : FnScope (d_fresh.ps ++ d_fresh.loc) d_fresh.ps (defScope (top 11)) := ⟨rfl, rfl, rfl, by decide +kernel, rfl, by decide +kernel, by decide +kernel⟩
theorem ck__law_cell : ckSs ⟨d__law_cell.ps ++ d__law_cell.loc, defScope (top 13), cfOf Gd, gns⟩ d__law_cell.body (defBody (top 13)) = true := by decide +kernel
theorem sc__law_cell : FnScope (d__law_cell.ps ++ d__law_cell.loc) d__law_cell.ps (defScope (top 13)) := ⟨rfl, rfl, rfl, by decide +kernel, rfl, by decide +kernel, by decide +kernel⟩
theorem ck__law_name : ckSs ⟨d__law_name.ps ++ d__law_name.loc, defScope (top 14), cfOf Gd, gns⟩ d__law_name.body (defBody (top 14)) = true := by decide +kernel
theorem sc__law_name : FnScope (d__law_name.ps ++ d__law_name.loc) d__law_name.ps (defScope (top 14)) := ⟨rfl, rfl, rfl, by decide +kernel, rfl, by decide +kernel, by decide +kernel⟩
theorem ck__law_word : ckSs ⟨d__law_word.ps ++ d__law_word.loc, defScope (top 15), cfOf Gd, gns⟩ d__law_word.body (defBody (top 15)) = true := by decide +kernel
theorem sc__law_word : FnScope (d__law_word.ps ++ d__law_word.loc) d__law_word.ps (defScope (top 15)) := ⟨rfl, rfl, rfl, by decide +kernel, rfl, by decide +kernel, by decide +kernel⟩
theorem ck__law_wide : ckSs ⟨d__law_wide.ps ++ d__law_wide.loc, defScope (top 16), cfOf Gd, gns⟩ d__law_wide.body (defBody (top 16)) = true := by decide +kernel
theorem sc__law_wide : FnScope (d__law_wide.ps ++ d__law_wide.loc) d__law_wide.ps (defScope (top 16)) := ⟨rfl, rfl, rfl, by decide +kernel, rfl, by decide +kernel, by decide +kernel⟩
theorem ck__law_grown : ckSs ⟨d__law_grown.ps ++ d__law_grown.loc, defScope (top 17), cfOf Gd, gns⟩ d__law_grown.body (defBody (top 17)) = true := by decide +kernel
theorem sc__law_grown : FnScope (d__law_grown.ps ++ d__law_grown.loc) d__law_grown.ps (defScope (top 17)) := ⟨rfl, rfl, rfl, by decide +kernel, rfl, by decide +kernel, by decide +kernel⟩
theorem ck__law_renamed : ckSs ⟨d__law_renamed.ps ++ d__law_renamed.loc, defScope (top 18), cfOf Gd, gns⟩ d__law_renamed.body (defBody (top 18)) = true := by decide +kernel
theorem sc__law_renamed : FnScope (d__law_renamed.ps ++ d__law_renamed.loc) d__law_renamed.ps (defScope (top 18)) := ⟨rfl, rfl, rfl, by decide +kernel, rfl, by decide +kernel, by decide +kernel⟩
theorem ck__law_is_changed : ckSs ⟨d__law_is_changed.ps ++ d__law_is_changed.loc, defScope (top 19), cfOf Gd, gns⟩ d__law_is_changed.body (defBody (top 19)) = true := by decide +kernel
theorem sc__law_is_changed : FnScope (d__law_is_changed.ps ++ d__law_is_changed.loc) d__law_is_changed.ps (defScope (top 19)) := ⟨rfl, rfl, rfl, by decide +kernel, rfl, by decide +kernel, by decide +kernel⟩
theorem ck__law_in_statement : ckSs ⟨d__law_in_statement.ps ++ d__law_in_statement.loc, defScope (top 20), cfOf Gd, gns⟩ d__law_in_statement.body (defBody (top 20)) = true := by decide +kernel
theorem sc__law_in_statement : FnScope (d__law_in_statement.ps ++ d__law_in_statement.loc) d__law_in_statement.ps (defScope (top 20)) := ⟨rfl, rfl, rfl, by decide +kernel, rfl, by decide +kernel, by decide +kernel⟩
theorem ck__law_has : ckSs ⟨d__law_has.ps ++ d__law_has.loc, defScope (top 21), cfOf Gd, gns⟩ d__law_has.body (defBody (top 21)) = true := by decide +kernel
theorem sc__law_has : FnScope (d__law_has.ps ++ d__law_has.loc) d__law_has.ps (defScope (top 21)) := ⟨rfl, rfl, rfl, by decide +kernel, rfl, by decide +kernel, by decide +kernel⟩
theorem ck__law_fresh : ckSs ⟨d__law_fresh.ps ++ d__law_fresh.loc, defScope (top 22), cfOf Gd, gns⟩ d__law_fresh.body (defBody (top 22)) = true := by decide +kernel
theorem sc__law_fresh : FnScope (d__law_fresh.ps ++ d__law_fresh.loc) d__law_fresh.ps (defScope (top 22)) := ⟨rfl, rfl, rfl, by decide +kernel, rfl, by decide +kernel, by decide +kernel⟩
theorem ck_law : ckSs ⟨d_law.ps ++ d_law.loc, defScope (top 23), cfOf Gd, gns⟩ d_law.body (defBody (top 23)) = true := by decide +kernel
theorem sc_law : FnScope (d_law.ps ++ d_law.loc) d_law.ps (defScope (top 23)) := ⟨rfl, rfl, rfl, by decide +kernel, rfl, by decide +kernel, by decide +kernel⟩
theorem lo_0 : LamOk L0 := ⟨rfl, rfl, rfl, by decide +kernel, by decide +kernel, by decide +kernel, by decide +kernel, by decide +kernel, fun _ _ _ _ us hl => us2 (fun _ _ => rfl) us hl⟩
theorem ln_0 : Ln Gs Gd gns 17 L0 := ⟨lo_0, d_lam0, (.ite (.cmp .eq (.var 0) (.var 2)) (.var 3) (.var 0)), rfl, rfl, rfl, rfl, rfl, rfl, by decide +kernel⟩
theorem mem_ts {t : Addr × Str} (h : t ∈ Tbs.ts) : t = (30, ("renamed.<locals>.<lambda>" : Str)) := by
  have h : t ∈ [(30, ("renamed.<locals>.<lambda>" : Str))] := h
  simpa only [List.mem_cons, List.not_mem_nil, or_false] using h
theorem all_mk {l : PySem.W.OpenLaw} {w : World} {K : PySem.W.Frag} {h : Heap} {mg : Str → Option Value} {fa : Addr} (X : K.In h) (G : h.Ns mainGlobals mg) (hfa : mg "law" = some (.ref fa))
    {cc2 : Addr}
    {f0 f1 f2 f3 f4 f5 f6 f7 f8 f9 f10 f11 f12 f13 f14 f15 f16 : Addr} {od0 an0 od1 an1 od2 an2 od3 an3 od4 an4 od5 an5 od6 an6 od7 an7 od8 an8 od9 an9 od10 an10 od11 an11 od12 an12 od13 an13 od14 an14 od15 an15 od16 an16 : Option Addr} {sl0 sl1 sl2 sl3 sl4 sl5 sl6 sl7 sl8 sl9 sl10 sl11 sl12 sl13 sl14 sl15 sl16 : Array (Option Value)} {oc0 kV0 dc0 pm0 cd0 ct0 oc1 kV1 dc1 pm1 cd1 ct1 oc2 kV2 dc2 pm2  ct2 oc3 kV3 dc3 pm3 cd3 ct3 oc4 kV4 dc4 pm4 cd4 ct4 oc5 kV5 dc5 pm5 cd5 ct5 oc6 kV6 dc6 pm6 cd6 ct6 oc7 kV7 dc7 pm7 cd7 ct7 oc8 kV8 dc8 pm8 cd8 ct8 oc9 kV9 dc9 pm9 cd9 ct9 oc10 kV10 dc10 pm10 cd10 ct10 oc11 kV11 dc11 pm11 cd11 ct11 oc12 kV12 dc12 pm12 cd12 ct12 oc13 kV13 dc13 pm13 cd13 ct13 oc14 kV14 dc14 pm14 cd14 ct14 oc15 kV15 dc15 pm15 cd15 ct15 oc16 kV16 dc16 pm16 cd16 ct16 : Value}
    (a0 : PySem.W.nsIn K mainGlobals "inside" = some (some (.ref f0))) (l0 : K.lookup f0 = some ⟨oc0, od0, .func (PySem.W.fnOf "inside" "inside" (defArgs (top 3)) (defBody (top 3)) (defScope (top 3)) .none kV0 dc0 pm0 an0 cd0 ct0), sl0⟩) (c0 : PySem.W.codeIn K cd0 "inside" = true) (k0 : PySem.W.keepIn K (.ref f0) = true)
    (a1 : PySem.W.nsIn K mainGlobals "with_terms" = some (some (.ref f1))) (l1 : K.lookup f1 = some ⟨oc1, od1, .func (PySem.W.fnOf "with_terms" "with_terms" (defArgs (top 4)) (defBody (top 4)) (defScope (top 4)) .none kV1 dc1 pm1 an1 cd1 ct1), sl1⟩) (c1 : PySem.W.codeIn K cd1 "with_terms" = true) (k1 : PySem.W.keepIn K (.ref f1) = true)
    (a2 : PySem.W.nsIn K mainGlobals "renamed" = some (some (.ref f2))) (l2 : K.lookup f2 = some ⟨oc2, od2, .func (PySem.W.fnOf "renamed" "renamed" (defArgs (top 5)) (defBody (top 5)) (defScope (top 5)) .none kV2 dc2 pm2 an2 (.ref cc2) ct2), sl2⟩) (c2 : PySem.W.codeIn K (.ref cc2) "renamed" = true) (k2 : PySem.W.keepIn K (.ref f2) = true) (h2 : PySem.W.codeHdIn K cc2 30 = true) (t2 : K.lookup 30 = none)
    (a3 : PySem.W.nsIn K mainGlobals "kids_of" = some (some (.ref f3))) (l3 : K.lookup f3 = some ⟨oc3, od3, .func (PySem.W.fnOf "kids_of" "kids_of" (defArgs (top 8)) (defBody (top 8)) (defScope (top 8)) .none kV3 dc3 pm3 an3 cd3 ct3), sl3⟩) (c3 : PySem.W.codeIn K cd3 "kids_of" = true) (k3 : PySem.W.keepIn K (.ref f3) = true)
    (a4 : PySem.W.nsIn K mainGlobals "changed" = some (some (.ref f4))) (l4 : K.lookup f4 = some ⟨oc4, od4, .func (PySem.W.fnOf "changed" "changed" (defArgs (top 10)) (defBody (top 10)) (defScope (top 10)) .none kV4 dc4 pm4 an4 cd4 ct4), sl4⟩) (c4 : PySem.W.codeIn K cd4 "changed" = true) (k4 : PySem.W.keepIn K (.ref f4) = true)
    (a5 : PySem.W.nsIn K mainGlobals "fresh" = some (some (.ref f5))) (l5 : K.lookup f5 = some ⟨oc5, od5, .func (PySem.W.fnOf "fresh" "fresh" (defArgs (top 11)) (defBody (top 11)) (defScope (top 11)) .none kV5 dc5 pm5 an5 cd5 ct5), sl5⟩) (c5 : PySem.W.codeIn K cd5 "fresh" = true) (k5 : PySem.W.keepIn K (.ref f5) = true)
    (a6 : PySem.W.nsIn K mainGlobals "_law_cell" = some (some (.ref f6))) (l6 : K.lookup f6 = some ⟨oc6, od6, .func (PySem.W.fnOf "_law_cell" "_law_cell" (defArgs (top 13)) (defBody (top 13)) (defScope (top 13)) .none kV6 dc6 pm6 an6 cd6 ct6), sl6⟩) (c6 : PySem.W.codeIn K cd6 "_law_cell" = true) (k6 : PySem.W.keepIn K (.ref f6) = true)
    (a7 : PySem.W.nsIn K mainGlobals "_law_name" = some (some (.ref f7))) (l7 : K.lookup f7 = some ⟨oc7, od7, .func (PySem.W.fnOf "_law_name" "_law_name" (defArgs (top 14)) (defBody (top 14)) (defScope (top 14)) .none kV7 dc7 pm7 an7 cd7 ct7), sl7⟩) (c7 : PySem.W.codeIn K cd7 "_law_name" = true) (k7 : PySem.W.keepIn K (.ref f7) = true)
    (a8 : PySem.W.nsIn K mainGlobals "_law_word" = some (some (.ref f8))) (l8 : K.lookup f8 = some ⟨oc8, od8, .func (PySem.W.fnOf "_law_word" "_law_word" (defArgs (top 15)) (defBody (top 15)) (defScope (top 15)) .none kV8 dc8 pm8 an8 cd8 ct8), sl8⟩) (c8 : PySem.W.codeIn K cd8 "_law_word" = true) (k8 : PySem.W.keepIn K (.ref f8) = true)
    (a9 : PySem.W.nsIn K mainGlobals "_law_wide" = some (some (.ref f9))) (l9 : K.lookup f9 = some ⟨oc9, od9, .func (PySem.W.fnOf "_law_wide" "_law_wide" (defArgs (top 16)) (defBody (top 16)) (defScope (top 16)) .none kV9 dc9 pm9 an9 cd9 ct9), sl9⟩) (c9 : PySem.W.codeIn K cd9 "_law_wide" = true) (k9 : PySem.W.keepIn K (.ref f9) = true)
    (a10 : PySem.W.nsIn K mainGlobals "_law_grown" = some (some (.ref f10))) (l10 : K.lookup f10 = some ⟨oc10, od10, .func (PySem.W.fnOf "_law_grown" "_law_grown" (defArgs (top 17)) (defBody (top 17)) (defScope (top 17)) .none kV10 dc10 pm10 an10 cd10 ct10), sl10⟩) (c10 : PySem.W.codeIn K cd10 "_law_grown" = true) (k10 : PySem.W.keepIn K (.ref f10) = true)
    (a11 : PySem.W.nsIn K mainGlobals "_law_renamed" = some (some (.ref f11))) (l11 : K.lookup f11 = some ⟨oc11, od11, .func (PySem.W.fnOf "_law_renamed" "_law_renamed" (defArgs (top 18)) (defBody (top 18)) (defScope (top 18)) .none kV11 dc11 pm11 an11 cd11 ct11), sl11⟩) (c11 : PySem.W.codeIn K cd11 "_law_renamed" = true) (k11 : PySem.W.keepIn K (.ref f11) = true)
    (a12 : PySem.W.nsIn K mainGlobals "_law_is_changed" = some (some (.ref f12))) (l12 : K.lookup f12 = some ⟨oc12, od12, .func (PySem.W.fnOf "_law_is_changed" "_law_is_changed" (defArgs (top 19)) (defBody (top 19)) (defScope (top 19)) .none kV12 dc12 pm12 an12 cd12 ct12), sl12⟩) (c12 : PySem.W.codeIn K cd12 "_law_is_changed" = true) (k12 : PySem.W.keepIn K (.ref f12) = true)
    (a13 : PySem.W.nsIn K mainGlobals "_law_in_statement" = some (some (.ref f13))) (l13 : K.lookup f13 = some ⟨oc13, od13, .func (PySem.W.fnOf "_law_in_statement" "_law_in_statement" (defArgs (top 20)) (defBody (top 20)) (defScope (top 20)) .none kV13 dc13 pm13 an13 cd13 ct13), sl13⟩) (c13 : PySem.W.codeIn K cd13 "_law_in_statement" = true) (k13 : PySem.W.keepIn K (.ref f13) = true)
    (a14 : PySem.W.nsIn K mainGlobals "_law_has" = some (some (.ref f14))) (l14 : K.lookup f14 = some ⟨oc14, od14, .func (PySem.W.fnOf "_law_has" "_law_has" (defArgs (top 21)) (defBody (top 21)) (defScope (top 21)) .none kV14 dc14 pm14 an14 cd14 ct14), sl14⟩) (c14 : PySem.W.codeIn K cd14 "_law_has" = true) (k14 : PySem.W.keepIn K (.ref f14) = true)
    (a15 : PySem.W.nsIn K mainGlobals "_law_fresh" = some (some (.ref f15))) (l15 : K.lookup f15 = some ⟨oc15, od15, .func (PySem.W.fnOf "_law_fresh" "_law_fresh" (defArgs (top 22)) (defBody (top 22)) (defScope (top 22)) .none kV15 dc15 pm15 an15 cd15 ct15), sl15⟩) (c15 : PySem.W.codeIn K cd15 "_law_fresh" = true) (k15 : PySem.W.keepIn K (.ref f15) = true)
    (a16 : PySem.W.nsIn K mainGlobals "law" = some (some (.ref f16))) (l16 : K.lookup f16 = some ⟨oc16, od16, .func (PySem.W.fnOf "law" "law" (defArgs (top 23)) (defBody (top 23)) (defScope (top 23)) .none kV16 dc16 pm16 an16 cd16 ct16), sl16⟩) (c16 : PySem.W.codeIn K cd16 "law" = true) (k16 : PySem.W.keepIn K (.ref f16) = true)
    (z0 : PySem.W.nsIn K mainGlobals "len" = some none)
    (z1 : PySem.W.nsIn K mainGlobals "min" = some none)
    (z2 : PySem.W.nsIn K mainGlobals "max" = some none)
    (z3 : PySem.W.nsIn K mainGlobals "int" = some none)
    (z4 : PySem.W.nsIn K mainGlobals "str" = some none)
    (z5 : PySem.W.nsIn K mainGlobals "tuple" = some none)
    (z6 : PySem.W.nsIn K mainGlobals "list" = some none)
    (z7 : PySem.W.nsIn K mainGlobals "sum" = some none)
    (z8 : PySem.W.nsIn K mainGlobals "isinstance" = some none)
    (z9 : PySem.W.nsIn K mainGlobals "bool" = some none)
    (z10 : PySem.W.nsIn K mainGlobals "range" = some none)
    (z11 : PySem.W.nsIn K mainGlobals "sorted" = some none)
    (z12 : PySem.W.nsIn K mainGlobals "set" = some none)
    (z13 : PySem.W.nsIn K mainGlobals "zip" = some none)
    {t0_0 : Tok}
    {t0_1 : Tok}
    {t0_2 : Tok}
    {g0 : Addr} {gD0 : Option Addr} {gS0 : Array (Option Value)} {gn0 : Nat} (ga0 : PySem.W.nsIn K mainGlobals "LEAVES" = some (some (.ref g0))) (gb0 : K.lookup g0 = some ⟨.type "tuple", gD0, .seq #[.str "yes" t0_0, .str "no" t0_1, .str "word" t0_2] gn0, gS0⟩)
    {t1_0 : Tok}
    {t1_1 : Tok}
    {g1 : Addr} {gD1 : Option Addr} {gS1 : Array (Option Value)} {gn1 : Nat} (ga1 : PySem.W.nsIn K mainGlobals "BINDERS" = some (some (.ref g1))) (gb1 : K.lookup g1 = some ⟨.type "tuple", gD1, .seq #[.str "all" t1_0, .str "some" t1_1] gn1, gS1⟩)
    {t2_0 : Tok}
    {g2 : Addr} {gD2 : Option Addr} {gS2 : Array (Option Value)} {gn2 : Nat} (ga2 : PySem.W.nsIn K mainGlobals "CLOSE" = some (some (.ref g2))) (gb2 : K.lookup g2 = some ⟨.type "tuple", gD2, .seq #[.str "close" t2_0] gn2, gS2⟩)
    : ∃ (st : Stmt) (fdd : FuncData), (∀ (s : Shared) (u : Value), BindsTo s fdd ⟨[u], []⟩ [("_law_script", u)]) ∧ Top K mg Gs Gd gls gns ∧ Dn K mg (cfOf Gd) gns d_law st fa fdd ∧ ∀ t ∈ Tbs.ts, K.lookup t.1 = none ∧ ∃ c, PySem.W.codeHdIn K c t.1 = true := by
  have e := hfa.symm.trans (PySem.W.mg_of X G a16)
  cases e
  have F0 := fun_mk (st := top 3) l0 c0 k0
  have D0 : Dn K mg (cfOf Gd) gns d_inside (top 3) _ _ := ⟨F0, PySem.W.mg_of X G a0, sc_inside, .inl ck_inside, F0.binds (ps := d_inside.ps) fun _ _ _ _ _ _ us hl => us1 (fun _ => rfl) us hl⟩
  have F1 := fun_mk (st := top 4) l1 c1 k1
  have D1 : Dn K mg (cfOf Gd) gns d_with_terms (top 4) _ _ := ⟨F1, PySem.W.mg_of X G a1, sc_with_terms, .inl ck_with_terms, F1.binds (ps := d_with_terms.ps) fun _ _ _ _ _ _ us hl => us3 (fun _ _ _ => rfl) us hl⟩
  have F2 := fun_mk (st := top 5) l2 c2 k2
  have D2 : Dn K mg (cfOf Gd) gns d_renamed (top 5) _ _ := ⟨F2, PySem.W.mg_of X G a2, sc_renamed, .inr ⟨{ f := 1, es := (.cons (.var 0) (.cons (.int 0) .nil)), k := 17, caps := [1, 2], x := "with_terms", ps := d_with_terms.ps, y := (rxs (top 5)).headD (.Constant .none 0 ⟨0, 0, 0, 0⟩), ys := (rxs (top 5)).dropLast.tail, p := (rps (top 5)).1, lp := lamP (rlm (top 5)), pos := (rps (top 5)).2.1, rp := (rps (top 5)).2.2, L := L0, c := cc2, P := 30, cells := fun l => [l + 1, l + 2], body := rfl, text := rfl, lam := rfl, args := by decide +kernel, npk := rfl, fn := rfl, gl := by decide +kernel, nd := by decide +kernel, dft := fun _ => rfl, cl := fun _ _ _ => rfl, cp := fun X l a cd hN hE => ⟨_, _, _, _, rfl, rfl, by rw [hN]; rfl, by rw [hE]; rfl, by rw [hE]; rfl, ⟨_, _, _, _, rfl, rfl, by rw [hN]; rfl, by rw [hE]; rfl, by rw [hE]; rfl, ⟨rfl, rfl⟩⟩⟩, code := rfl, hd := h2, tb := by decide +kernel, un := by decide +kernel, ql := by decide +kernel }⟩, F2.binds (ps := d_renamed.ps) fun _ _ _ _ _ _ us hl => us3 (fun _ _ _ => rfl) us hl⟩
  have F3 := fun_mk (st := top 8) l3 c3 k3
  have D3 : Dn K mg (cfOf Gd) gns d_kids_of (top 8) _ _ := ⟨F3, PySem.W.mg_of X G a3, sc_kids_of, .inl ck_kids_of, F3.binds (ps := d_kids_of.ps) fun _ _ _ _ _ _ us hl => us1 (fun _ => rfl) us hl⟩
  have F4 := fun_mk (st := top 10) l4 c4 k4
  have D4 : Dn K mg (cfOf Gd) gns d_changed (top 10) _ _ := ⟨F4, PySem.W.mg_of X G a4, sc_changed, .inl ck_changed, F4.binds (ps := d_changed.ps) fun _ _ _ _ _ _ us hl => us3 (fun _ _ _ => rfl) us hl⟩
  have F5 := fun_mk (st := top 11) l5 c5 k5
  have D5 : Dn K mg (cfOf Gd) gns d_fresh (top 11) _ _ := ⟨F5, PySem.W.mg_of X G a5, sc_fresh, .inl ck_fresh, F5.binds (ps := d_fresh.ps) fun _ _ _ _ _ _ us hl => us1 (fun _ => rfl) us hl⟩
  have F6 := fun_mk (st := top 13) l6 c6 k6
  have D6 : Dn K mg (cfOf Gd) gns d__law_cell (top 13) _ _ := ⟨F6, PySem.W.mg_of X G a6, sc__law_cell, .inl ck__law_cell, F6.binds (ps := d__law_cell.ps) fun _ _ _ _ _ _ us hl => us2 (fun _ _ => rfl) us hl⟩
  have F7 := fun_mk (st := top 14) l7 c7 k7
  have D7 : Dn K mg (cfOf Gd) gns d__law_name (top 14) _ _ := ⟨F7, PySem.W.mg_of X G a7, sc__law_name, .inl ck__law_name, F7.binds (ps := d__law_name.ps) fun _ _ _ _ _ _ us hl => us1 (fun _ => rfl) us hl⟩
  have F8 := fun_mk (st := top 15) l8 c8 k8
  have D8 : Dn K mg (cfOf Gd) gns d__law_word (top 15) _ _ := ⟨F8, PySem.W.mg_of X G a8, sc__law_word, .inl ck__law_word, F8.binds (ps := d__law_word.ps) fun _ _ _ _ _ _ us hl => us1 (fun _ => rfl) us hl⟩
  have F9 := fun_mk (st := top 16) l9 c9 k9
  have D9 : Dn K mg (cfOf Gd) gns d__law_wide (top 16) _ _ := ⟨F9, PySem.W.mg_of X G a9, sc__law_wide, .inl ck__law_wide, F9.binds (ps := d__law_wide.ps) fun _ _ _ _ _ _ us hl => us4 (fun _ _ _ _ => rfl) us hl⟩
  have F10 := fun_mk (st := top 17) l10 c10 k10
  have D10 : Dn K mg (cfOf Gd) gns d__law_grown (top 17) _ _ := ⟨F10, PySem.W.mg_of X G a10, sc__law_grown, .inl ck__law_grown, F10.binds (ps := d__law_grown.ps) fun _ _ _ _ _ _ us hl => us2 (fun _ _ => rfl) us hl⟩
  have F11 := fun_mk (st := top 18) l11 c11 k11
  have D11 : Dn K mg (cfOf Gd) gns d__law_renamed (top 18) _ _ := ⟨F11, PySem.W.mg_of X G a11, sc__law_renamed, .inl ck__law_renamed, F11.binds (ps := d__law_renamed.ps) fun _ _ _ _ _ _ us hl => us3 (fun _ _ _ => rfl) us hl⟩
  have F12 := fun_mk (st := top 19) l12 c12 k12
  have D12 : Dn K mg (cfOf Gd) gns d__law_is_changed (top 19) _ _ := ⟨F12, PySem.W.mg_of X G a12, sc__law_is_changed, .inl ck__law_is_changed, F12.binds (ps := d__law_is_changed.ps) fun _ _ _ _ _ _ us hl => us4 (fun _ _ _ _ => rfl) us hl⟩
  have F13 := fun_mk (st := top 20) l13 c13 k13
  have D13 : Dn K mg (cfOf Gd) gns d__law_in_statement (top 20) _ _ := ⟨F13, PySem.W.mg_of X G a13, sc__law_in_statement, .inl ck__law_in_statement, F13.binds (ps := d__law_in_statement.ps) fun _ _ _ _ _ _ us hl => us2 (fun _ _ => rfl) us hl⟩
  have F14 := fun_mk (st := top 21) l14 c14 k14
  have D14 : Dn K mg (cfOf Gd) gns d__law_has (top 21) _ _ := ⟨F14, PySem.W.mg_of X G a14, sc__law_has, .inl ck__law_has, F14.binds (ps := d__law_has.ps) fun _ _ _ _ _ _ us hl => us2 (fun _ _ => rfl) us hl⟩
  have F15 := fun_mk (st := top 22) l15 c15 k15
  have D15 : Dn K mg (cfOf Gd) gns d__law_fresh (top 22) _ _ := ⟨F15, PySem.W.mg_of X G a15, sc__law_fresh, .inl ck__law_fresh, F15.binds (ps := d__law_fresh.ps) fun _ _ _ _ _ _ us hl => us1 (fun _ => rfl) us hl⟩
  have F16 := fun_mk (st := top 23) l16 c16 k16
  have D16 : Dn K mg (cfOf Gd) gns d_law (top 23) _ _ := ⟨F16, PySem.W.mg_of X G a16, sc_law, .inl ck_law, F16.binds (ps := d_law.ps) fun _ _ _ _ _ _ us hl => us1 (fun _ => rfl) us hl⟩
  refine ⟨top 23, PySem.W.fnOf "law" "law" (defArgs (top 23)) (defBody (top 23)) (defScope (top 23)) .none kV16 dc16 pm16 an16 cd16 ct16, fun s v => .of_eq rfl, ⟨?_, ?_, by decide +kernel, ?_, ?_, ?_, ?_⟩, D16, ?_⟩
  · exact ⟨⟨_, _, _, D0⟩, ⟨_, _, _, D1⟩, ⟨_, _, _, D2⟩, ⟨_, _, _, D3⟩, ⟨_, _, _, D4⟩, ⟨_, _, _, D5⟩, ⟨_, _, _, D6⟩, ⟨_, _, _, D7⟩, ⟨_, _, _, D8⟩, ⟨_, _, _, D9⟩, ⟨_, _, _, D10⟩, ⟨_, _, _, D11⟩, ⟨_, _, _, D12⟩, ⟨_, _, _, D13⟩, ⟨_, _, _, D14⟩, ⟨_, _, _, D15⟩, ⟨_, _, _, D16⟩, trivial⟩
  · intro i fd h
    cases i with
    | zero => exact h
    | succ i =>
    cases i with
    | zero => exact h
    | succ i =>
    cases i with
    | zero => exact h
    | succ i =>
    cases i with
    | zero => exact h
    | succ i =>
    cases i with
    | zero => exact h
    | succ i =>
    cases i with
    | zero => exact h
    | succ i =>
    cases i with
    | zero => exact h
    | succ i =>
    cases i with
    | zero => exact h
    | succ i =>
    cases i with
    | zero => exact h
    | succ i =>
    cases i with
    | zero => exact h
    | succ i =>
    cases i with
    | zero => exact h
    | succ i =>
    cases i with
    | zero => exact h
    | succ i =>
    cases i with
    | zero => exact h
    | succ i =>
    cases i with
    | zero => exact h
    | succ i =>
    cases i with
    | zero => exact h
    | succ i =>
    cases i with
    | zero => exact h
    | succ i =>
    cases i with
    | zero => exact h
    | succ i =>
    cases h
  · intro k L h
    have h : List.lookup k [(17, L0)] = some L := h
    rw [List.lookup_cons] at h
    split at h
    · rename_i z
      cases h
      obtain rfl : k = 17 := by simpa using z
      exact ln_0
    rename_i z
    cases h
  · intro x hx
    have hx : x ∈ (["len", "min", "max", "int", "str", "tuple", "list", "sum", "isinstance", "bool", "range", "sorted", "set", "zip"] : List Str) := hx
    simp only [List.mem_cons, List.not_mem_nil, or_false] at hx
    rcases hx with rfl | rfl | rfl | rfl | rfl | rfl | rfl | rfl | rfl | rfl | rfl | rfl | rfl | rfl
    · exact PySem.W.mg_none_of X G z0
    · exact PySem.W.mg_none_of X G z1
    · exact PySem.W.mg_none_of X G z2
    · exact PySem.W.mg_none_of X G z3
    · exact PySem.W.mg_none_of X G z4
    · exact PySem.W.mg_none_of X G z5
    · exact PySem.W.mg_none_of X G z6
    · exact PySem.W.mg_none_of X G z7
    · exact PySem.W.mg_none_of X G z8
    · exact PySem.W.mg_none_of X G z9
    · exact PySem.W.mg_none_of X G z10
    · exact PySem.W.mg_none_of X G z11
    · exact PySem.W.mg_none_of X G z12
    · exact PySem.W.mg_none_of X G z13
  · intro g x d h1 h2
    cases g with
    | zero =>
      cases h1; cases h2
      refine ⟨.ref g0, .ref g0, PySem.W.mg_of X G ga0, rfl, fun H F => ?_⟩
      unfold Rel
      refine ⟨g0, [.str "yes", .str "no", .str "word"], rfl, .inr ⟨_, _, gn0, gb0, rfl, rfl, by show 3 ≤ sizeLine; decide, .cons ⟨_, rfl⟩ (.cons ⟨_, rfl⟩ (.cons ⟨_, rfl⟩ (.nil)))⟩, ?_⟩
      exact RelL.cons (rel_str _) (RelL.cons (rel_str _) (RelL.cons (rel_str _) (RelL.nil)))
    | succ g =>
    cases g with
    | zero =>
      cases h1; cases h2
      refine ⟨.ref g1, .ref g1, PySem.W.mg_of X G ga1, rfl, fun H F => ?_⟩
      unfold Rel
      refine ⟨g1, [.str "all", .str "some"], rfl, .inr ⟨_, _, gn1, gb1, rfl, rfl, by show 2 ≤ sizeLine; decide, .cons ⟨_, rfl⟩ (.cons ⟨_, rfl⟩ (.nil))⟩, ?_⟩
      exact RelL.cons (rel_str _) (RelL.cons (rel_str _) (RelL.nil))
    | succ g =>
    cases g with
    | zero =>
      cases h1; cases h2
      refine ⟨.ref g2, .ref g2, PySem.W.mg_of X G ga2, rfl, fun H F => ?_⟩
      unfold Rel
      refine ⟨g2, [.str "close"], rfl, .inr ⟨_, _, gn2, gb2, rfl, rfl, by show 1 ≤ sizeLine; decide, .cons ⟨_, rfl⟩ (.nil)⟩, ?_⟩
      exact RelL.cons (rel_str _) (RelL.nil)
    | succ g =>
    cases h1
  · intro g x h1
    cases g with
    | zero => exact ⟨_, rfl⟩
    | succ g =>
    cases g with
    | zero => exact ⟨_, rfl⟩
    | succ g =>
    cases g with
    | zero => exact ⟨_, rfl⟩
    | succ g =>
    cases h1
  · intro t ht
    have ht : t ∈ [(30, ("renamed.<locals>.<lambda>" : Str))] := ht
    simp only [List.mem_cons, List.not_mem_nil, or_false] at ht
    rcases ht with rfl
    · exact ⟨t2, _, h2⟩
end P1
end
section
open PySem PySem.W PyProof.Rows
set_option maxRecDepth 100000 in
set_option maxHeartbeats 0 in
theorem PySem.Challenge.cw_cutless_k15_changed_holds : PySem.Challenge.rw_cutless_k15_changed.Holds := by
  w_on; o_law; k_head; (case hw => w_witness2)
  k_fill
  refine PP.walk_run (l := PySem.Challenge.rw_cutless_k15_changed) (G := P1.Gs) (Gd := P1.Gd) (gl := P1.gls) (gn := P1.gns) (i := 16) (fd := P1.d_law) (x := "_law_script") P1.main rfl rfl rfl rfl (fun w h Y => ⟨PySem.W.km_in_of Y, fun t ht => PySem.W.km_tabs_of Y t.1 (by rcases P1.mem_ts ht with rfl <;> decide)⟩) ?F
  case F =>
    intro w mg fa h KX G hmg
    refine' P1.all_mk (l := PySem.Challenge.rw_cutless_k15_changed) (w := w) KX G hmg ?a0 ?l0 ?c0 ?k0 ?a1 ?l1 ?c1 ?k1 ?a2 ?l2 ?c2 ?k2 ?h2 ?t2 ?a3 ?l3 ?c3 ?k3 ?a4 ?l4 ?c4 ?k4 ?a5 ?l5 ?c5 ?k5 ?a6 ?l6 ?c6 ?k6 ?a7 ?l7 ?c7 ?k7 ?a8 ?l8 ?c8 ?k8 ?a9 ?l9 ?c9 ?k9 ?a10 ?l10 ?c10 ?k10 ?a11 ?l11 ?c11 ?k11 ?a12 ?l12 ?c12 ?k12 ?a13 ?l13 ?c13 ?k13 ?a14 ?l14 ?c14 ?k14 ?a15 ?l15 ?c15 ?k15 ?a16 ?l16 ?c16 ?k16 ?z0 ?z1 ?z2 ?z3 ?z4 ?z5 ?z6 ?z7 ?z8 ?z9 ?z10 ?z11 ?z12 ?z13 ?ga0 ?gb0 ?ga1 ?gb1 ?ga2 ?gb2
    (case a0 => k_is)
    (case l0 => k_is)
    (case c0 => k_is)
    (case k0 => k_is)
    (case a1 => k_is)
    (case l1 => k_is)
    (case c1 => k_is)
    (case k1 => k_is)
    (case a2 => k_is)
    (case l2 => k_is)
    (case c2 => k_is)
    (case k2 => k_is)
    (case h2 => kernel_rfl)
    (case t2 => kernel_rfl)
    (case a3 => k_is)
    (case l3 => k_is)
    (case c3 => k_is)
    (case k3 => k_is)
    (case a4 => k_is)
    (case l4 => k_is)
    (case c4 => k_is)
    (case k4 => k_is)
    (case a5 => k_is)
    (case l5 => k_is)
    (case c5 => k_is)
    (case k5 => k_is)
    (case a6 => k_is)
    (case l6 => k_is)
    (case c6 => k_is)
    (case k6 => k_is)
    (case a7 => k_is)
    (case l7 => k_is)
    (case c7 => k_is)
    (case k7 => k_is)
    (case a8 => k_is)
    (case l8 => k_is)
    (case c8 => k_is)
    (case k8 => k_is)
    (case a9 => k_is)
    (case l9 => k_is)
    (case c9 => k_is)
    (case k9 => k_is)
    (case a10 => k_is)
    (case l10 => k_is)
    (case c10 => k_is)
    (case k10 => k_is)
    (case a11 => k_is)
    (case l11 => k_is)
    (case c11 => k_is)
    (case k11 => k_is)
    (case a12 => k_is)
    (case l12 => k_is)
    (case c12 => k_is)
    (case k12 => k_is)
    (case a13 => k_is)
    (case l13 => k_is)
    (case c13 => k_is)
    (case k13 => k_is)
    (case a14 => k_is)
    (case l14 => k_is)
    (case c14 => k_is)
    (case k14 => k_is)
    (case a15 => k_is)
    (case l15 => k_is)
    (case c15 => k_is)
    (case k15 => k_is)
    (case a16 => k_is)
    (case l16 => k_is)
    (case c16 => k_is)
    (case k16 => k_is)
    (case z0 => k_is)
    (case z1 => k_is)
    (case z2 => k_is)
    (case z3 => k_is)
    (case z4 => k_is)
    (case z5 => k_is)
    (case z6 => k_is)
    (case z7 => k_is)
    (case z8 => k_is)
    (case z9 => k_is)
    (case z10 => k_is)
    (case z11 => k_is)
    (case z12 => k_is)
    (case z13 => k_is)
    (case ga0 => k_is)
    (case gb0 => k_is)
    (case ga1 => k_is)
    (case gb1 => k_is)
    (case ga2 => k_is)
    (case gb2 => k_is)
end
